import Derived.Test.YtflkfleihlceeaaGreatDoorD01
import Derived.Test.YtflkfleihlceeaaGreatDoorD03
import Derived.BigGuard
import Derived.Deep.Cut
import Derived.Deep.CutRange
import Derived.Lib.QuietBelow
import Derived.BigQuiet
import Derived.Lib.LaidTab
/-
 The program's sets of indexes: as data and in memory; since, word, has. Conditions: those named at each law.
-/
namespace Go.Proofs.YtflkfleihlceeaaGreatDoor
open Go.RowKit Go.Deep Go.Sort
theorem bW (w : World) (o : Obj) : Below w.heap.size w (w.alloc o) := (Below.refl _ w).alloc (nlr _) o
def OffAt (S : Nat -> Prop) (w : World) (A : Option Addr) (vs : List Value) : Prop := vs = [] \/ ∃ g o, A = some ⟨g, o, none⟩ /\ ¬ S g /\ w.rangeAt g o vs
theorem OffAt.nil (S : Nat -> Prop) (w : World) (A : Option Addr) : OffAt S w A [] := .inl rfl
theorem OffAt.turned {S : Nat -> Prop} {w w' : World} {A : Option Addr} {vs : List Value} (h : OffAt S w A vs) (ht : Turned S w w') : OffAt S w' A vs := by
 rcases h with h | ⟨g, o, e, hn, hr⟩
 ·exact .inl h
 ·exact .inr ⟨g, o, e, hn, fun j v hv => ht.cell (hr j v hv) hn⟩
theorem OffAt.weaken {S T : Nat -> Prop} {w : World} {A : Option Addr} {vs : List Value} (h : OffAt S w A vs) (hT : ∀ k, T k -> S k) : OffAt T w A vs := by
 rcases h with h | ⟨g, o, e, hn, hr⟩
 ·exact .inl h
 ·exact .inr ⟨g, o, e, fun ht => hn (hT g ht), hr⟩
theorem OffAt.stays {S : Nat -> Prop} {w w' : World} {A : Option Addr} {vs : List Value} (h : OffAt S w A vs) (hb : Below w.heap.size w w') : OffAt S w' A vs := by
 rcases h with h | ⟨g, o, e, hn, hr⟩
 ·exact .inl h
 ·exact .inr ⟨g, o, e, hn, fun j v hv => by
   rw [World.cell?_of_block (hb.block g (World.block_lt_of_cell? _ _ (hr j v hv)))]
   exact hr j v hv⟩
theorem OffAt.fresh {S T : Nat -> Prop} {w : World} {A : Option Addr} {vs : List Value} (h : OffAt S w A vs) (hT : ∀ k, T k -> S k \/ w.heap.size <= k) : OffAt T w A vs := by
 rcases h with h | ⟨g, o, e, hn, hr⟩
 ·exact .inl h
 ·match vs, hr with
  | [], _ => exact .inl rfl
  | v :: r, hr =>
   have hg : g < w.heap.size := World.block_lt_of_cell? w _ (hr 0 v rfl);exact .inr ⟨g, o, e, fun ht => (hT g ht).elim hn (fun h => by omega), hr⟩
theorem OffAt.cell {S : Nat -> Prop} {w : World} {A : Option Addr} {vs : List Value} (h : OffAt S w A vs) {i : Nat} {v : Value} (hv : vs[i]? = some v) : ∃ g o, A = some ⟨g, o, none⟩ /\ g < w.heap.size /\ w.cell? ⟨g, o + i, none⟩ = some v := by
 rcases h with h | ⟨g, o, e, _, hr⟩
 ·rw [h] at hv;simp at hv
 ·exact ⟨g, o, e, World.block_lt_of_cell? w _ (hr i v hv), hr i v hv⟩
structure Ix where
 f : Nat
 ws : List Nat
 A : Option Addr
 c : Nat
def Ix.v (x : Ix) : Value := .agg #[.int .i64 (x.f : Int), .slice x.A x.ws.length x.c]
def wsV (ws : List Nat) : List Value := ws.map fun (m : Nat) => .int .u64 (m : Int)
theorem wsV_at {ws : List Nat} {i m : Nat} (h : ws[i]? = some m) : (wsV ws)[i]? = some (.int .u64 (m : Int)) := by simp [wsV, h]
def wordN (f : Nat) (ws : List Nat) (k : Nat) : Nat := if k < f then 0 else ws.getD (k - f) 0
def memN (f : Nat) (ws : List Nat) (i : Nat) : Bool := (wordN f ws (i / 64)).testBit (i % 64)
def Ix.mem (x : Ix) (i : Nat) : Bool := memN x.f x.ws i
def OkW (ws : List Nat) : Prop := ∀ m ∈ ws, m < 18446744073709551616
theorem OkW.at {ws : List Nat} (h : OkW ws) (f k : Nat) : wordN f ws k < 18446744073709551616 := by
 unfold wordN;split
 ·decide
 ·rw [List.getD_eq_getElem?_getD];cases hk : ws[k - f]? with
  | none => decide
  | some m => exact h m (List.mem_of_getElem? hk)
structure IxAt (S : Nat -> Prop) (N : Nat) (w : World) (x : Ix) : Prop where
 off : OffAt S w x.A (wsV x.ws)
 cap : x.ws.length <= x.c
 ok : OkW x.ws
 fits : x.f + x.ws.length <= N / 64 + 1
theorem IxAt.stays {S : Nat -> Prop} {N : Nat} {w w' : World} {x : Ix} (h : IxAt S N w x) (hb : Below w.heap.size w w') : IxAt S N w' x := ⟨h.off.stays hb, h.cap, h.ok, h.fits⟩
theorem IxAt.turned {S : Nat -> Prop} {N : Nat} {w w' : World} {x : Ix} (h : IxAt S N w x) (ht : Turned S w w') : IxAt S N w' x := ⟨h.off.turned ht, h.cap, h.ok, h.fits⟩
theorem IxAt.weaken {S T : Nat -> Prop} {N : Nat} {w : World} {x : Ix} (h : IxAt S N w x) (hT : ∀ k, T k -> S k) : IxAt T N w x := ⟨h.off.weaken hT, h.cap, h.ok, h.fits⟩
theorem IxAt.fresh {S T : Nat -> Prop} {N : Nat} {w : World} {x : Ix} (h : IxAt S N w x) (hT : ∀ k, T k -> S k \/ w.heap.size <= k) : IxAt T N w x := ⟨h.off.fresh hT, h.cap, h.ok, h.fits⟩
set_option maxRecDepth 100000 in
theorem since_is (i : Nat) (hi : i < 1099511627776) (w : World) : Calls Tryz.prog 52 #[.int .i64 (i : Int)] w fun e w' => e = .returned (Ix.v ⟨i / 64, [], none, 0⟩) /\ Below w.heap.size w w' := by
 have hq : (i : Int).tdiv 64 = ((i / 64 : Nat) : Int) := rfl;have hw : wrap64 ((i / 64 : Nat) : Int) = ((i / 64 : Nat) : Int) := IntWalk.wrap64_in _ (by omega);obtain ⟨q, eq⟩ : ∃ q, q = i / 64 := ⟨_, rfl⟩;rw [<- eq] at hq hw ⊢;clear hi eq;go_enter Tryz.func52, Tryz.ntmps52;go_wp2_with fail;refine bodyPost_ret (v := .agg #[.int .i64 (q : Int), .slice none 0 0]) (by simp [results, Tryz.results52, go_sem]) rfl ⟨rfl, ?_⟩;exact bW w _
theorem word_facts (k f _n : Nat) (hk : k < 1099511627776) (hf : f < 1099511627776) : wrap64 ((k : Int) - (f : Int)) = (k : Int) - (f : Int) := IntWalk.wrap64_in _ (by omega)
set_option maxRecDepth 100000 in
theorem word_is {S : Nat -> Prop} {N : Nat} {w : World} {x : Ix} (hx : IxAt S N w x) (hN : N < 1099511627776) (k : Nat) (hk : k < 1099511627776) : Calls Tryz.prog 55 #[x.v, .int .i64 (k : Int)] w fun e w' => e = .returned (.int .u64 (wordN x.f x.ws k : Int)) /\ Below w.heap.size w w' := by
 obtain ⟨f, ws, A, c⟩ := x;have hwd := word_facts k f ws.length hk (by have := hx.fits; simp only at this; omega);unfold Ix.v;simp only;obtain ⟨n, hn⟩ : ∃ n, n = ws.length := ⟨_, rfl⟩;rw [<- hn];by_cases h1 : k < f
 ·have e : wordN f ws k = 0 := (by unfold wordN; rw [if_pos h1]);rw [e];obtain ⟨d, hd⟩ : ∃ d : Int, d = (k : Int) - (f : Int) := ⟨_, rfl⟩;have hwd2 : wrap64 ((k : Int) - (f : Int)) = d := hwd.trans hd.symm;have z : decide (d < 0) = true := dqt (by omega);clear hx hd h1 e hn hk hN hwd;go_enter Tryz.func55, Tryz.ntmps55;go_wp2_with fail;go_ret;exact ⟨rfl, bW w _⟩
 ·obtain ⟨d, hd⟩ : ∃ d : Nat, d = k - f := ⟨_, rfl⟩;have hkf : (k : Int) - (f : Int) = (d : Int) := (by omega);have hwd2 : wrap64 ((k : Int) - (f : Int)) = (d : Int) := hwd.trans hkf;have z : decide ((d : Int) < 0) = false := dqf (by omega);by_cases h2 : n <= d
  ·have e : wordN f ws k = 0 := by
    unfold wordN;rw [if_neg h1, <- hd, List.getD_eq_getElem?_getD, List.getElem?_eq_none (by omega)];rfl
   rw [e];have z1 : decide ((n : Int) <= (d : Int)) = true := dqt (by omega);have z2 : decide (n <= d) = true := dqt h2;clear hx hd h1 e hn hk hN hkf hwd h2;go_enter Tryz.func55, Tryz.ntmps55;go_wp2_with fail;go_ret;exact ⟨rfl, bW w _⟩
  ·have hg : ws[d]? = some (wordN f ws k) := by
    unfold wordN;rw [if_neg h1, <- hd, List.getD_eq_getElem?_getD, List.getElem?_eq_getElem (by omega)];rfl
   obtain ⟨g, o, rfl, hgl, hc⟩ := hx.off.cell (wsV_at hg);obtain ⟨m, em⟩ : ∃ m, m = wordN f ws k := ⟨_, rfl⟩;rw [<- em] at hc ⊢;have z1 : decide ((n : Int) <= (d : Int)) = false := dqf (by omega);have z2 : decide (n <= d) = false := dqf h2;have hd0 : (0 : Int) <= (d : Int) := (by omega);have hdI : (d : Int) < (n : Int) := (by omega);clear hx hd h1 em hn hk hN hkf hwd h2 hg;go_enter Tryz.func55, Tryz.ntmps55;go_wp2_with fail;go_ret;exact ⟨rfl, bW w _⟩
theorem div_facts (i : Nat) (hi : i < 1099511627776) : (i : Int).tdiv 64 = ((i / 64 : Nat) : Int) /\ wrap64 ((i / 64 : Nat) : Int) = ((i / 64 : Nat) : Int) /\ (i : Int).tmod 64 = ((i % 64 : Nat) : Int) /\ wrap64 ((i % 64 : Nat) : Int) = ((i % 64 : Nat) : Int) /\ i % 64 < 64 /\ i / 64 < 1099511627776 :=
 ⟨rfl, IntWalk.wrap64_in _ (by omega), rfl, IntWalk.wrap64_in _ (by omega), Nat.mod_lt _ (by decide), by omega⟩
set_option maxRecDepth 100000 in
theorem has_ix {S : Nat -> Prop} {N : Nat} {w : World} {x : Ix} (hx : IxAt S N w x) (hN : N < 1099511627776) (i : Nat) (hi : i < 1099511627776) : Calls Tryz.prog 57 #[x.v, .int .i64 (i : Int)] w fun e w' => e = .returned (.bool (x.mem i)) /\ Below w.heap.size w w' := by
 obtain ⟨hq, hqw, hr, hrw, hr64, hq40⟩ := div_facts i hi;have HW := lh fun (W : World) (hW : Below w.heap.size w W) => word_is (hx.stays hW) hN (i / 64) hq40;have hok := hx.ok.at x.f (i / 64);unfold Ix.v at HW ⊢;have HM := lh (show ∀ m, m = wordN x.f x.ws (i / 64) -> m.testBit (i % 64) = x.mem i from fun m h => by rw [h]; rfl);obtain ⟨m, em⟩ : ∃ m, m = wordN x.f x.ws (i / 64) := ⟨_, rfl⟩;rw [<- em] at HW hok;have HM2 := lh (HM.out m em);generalize i / 64 = q at *;generalize i % 64 = r at *;have hrI : (0 : Int) <= (r : Int) := (by omega);have hr64I : (r : Int) < 64 := (by omega);clear em HM hx hN hi hq40;go_enter Tryz.func57, Tryz.ntmps57;go_wp2_with fail;go_at_call 55;refine (HW.out _ (bW w _)).mono ?_;rintro e w1 ⟨rfl, hb1⟩;have HB := lh ((bW w _).trans (hb1.mono (by rw [World.size_alloc]; omega)));clear hb1;go_wp2_with fail;go_ret;refine ⟨?_, HB.out⟩;rw [<- HM2.out, <- bit_test m r hok];rfl
open Go.RowKit Go.Deep Go.Sort
def debTab : List Int := [0, 1, 56, 2, 57, 49, 28, 3, 61, 58, 42, 50, 38, 29, 17, 4, 62, 47, 59, 36, 45, 43, 51, 22, 53, 39, 33, 30, 24, 18, 12, 5, 63, 55, 48, 27, 60, 41, 37, 16, 46, 35, 44, 21, 52, 32, 23, 11, 54, 26, 40, 15, 34, 20, 31, 10, 25, 14, 19, 9, 13, 8, 7, 6]
def DebAt (w : World) : Prop := ∀ i, i < 64 -> w.cell? ⟨0, i, none⟩ = some (.int .u8 (debTab.getD i 0))
theorem DebAt.below {w w' : World} (h : DebAt w) (hb : Below w.heap.size w w') : DebAt w' := fun i hi => (hb.cell (World.block_lt_of_cell? w _ (h i hi))).trans (h i hi)
theorem deb_all : (List.range 64).all (fun k => debTab.getD ((2 ^ k * 285870213051353865) % 18446744073709551616 / 288230376151711744) 0 == (k : Int)) = true := by decide +kernel
theorem deb_at {k : Nat} (hk : k < 64) : debTab.getD ((2 ^ k * 285870213051353865) % 18446744073709551616 / 288230376151711744) 0 = (k : Int) := by
 have := List.all_eq_true.1 deb_all k (List.mem_range.2 hk);simpa using this
theorem low_and (m k : Nat) (hx : 2 ^ (k + 1) * m + 2 ^ k < 18446744073709551616) : (2 ^ (k + 1) * m + 2 ^ k) &&& (18446744073709551616 - (2 ^ (k + 1) * m + 2 ^ k)) = 2 ^ k := by
 have hp := Nat.two_pow_pos k;have hlt : 2 ^ k < 2 ^ (k + 1) := Nat.pow_lt_pow_right (by decide) (Nat.lt_succ_self k);obtain ⟨y, hy⟩ : ∃ y, y = 2 ^ (k + 1) * m + (2 ^ k - 1) := ⟨_, rfl⟩;have hxy : 2 ^ (k + 1) * m + 2 ^ k = y + 1 := (by omega)
 have hk : k < 64 := by
  rcases Nat.lt_or_ge k 64 with h | h
  ·exact h
  ·have := Nat.pow_le_pow_right (show 0 < 2 by decide) h;omega
 apply Nat.eq_of_testBit_eq;intro i;rw [Nat.testBit_and, Nat.testBit_two_pow]
 have h2 : (18446744073709551616 - (2 ^ (k + 1) * m + 2 ^ k)).testBit i = (decide (i < 64) && !y.testBit i) := by
  rw [hxy];exact Nat.testBit_two_pow_sub_succ (n := 64) (x := y) (by omega) i
 rw [h2, hy, Nat.testBit_two_pow_mul_add _ hlt, Nat.testBit_two_pow_mul_add _ (show 2 ^ k - 1 < 2 ^ (k + 1) by omega), Nat.testBit_two_pow, Nat.testBit_two_pow_sub_one];by_cases h1 : i < k + 1
 ·simp only [if_pos h1];by_cases h3 : k = i
  ·subst h3;simp [hk]
  ·have : i < k := (by omega);simp [h3, this]
 ·simp only [if_neg h1];have : ¬ k = i := (by omega);cases m.testBit (i - (k + 1)) <;> simp [this]
theorem low_of : ∀ (k x : Nat), x.testBit k = true -> (∀ j, j < k -> x.testBit j = false) -> ∃ m, x = 2 ^ (k + 1) * m + 2 ^ k
 | 0, x, h, _ => by
  rw [Nat.testBit_zero, decide_eq_true_eq] at h;exact ⟨x / 2, by omega⟩
 | k + 1, x, h, hl => by
  have h0 := hl 0 (Nat.succ_pos k);rw [Nat.testBit_zero, decide_eq_false_iff_not] at h0;rw [Nat.testBit_succ] at h
  obtain ⟨m, hm⟩ := low_of k (x / 2) h fun j hj => by
   have := hl (j + 1) (by omega)
   rwa [Nat.testBit_succ] at this
  refine ⟨m, ?_⟩;have e1 : 2 ^ (k + 1 + 1) = 2 * 2 ^ (k + 1) := (by rw [Nat.pow_succ]; omega);have e2 : 2 ^ (k + 1) = 2 * 2 ^ k := (by rw [Nat.pow_succ]; omega);rw [e1, Nat.mul_assoc];omega
theorem least_ex (p : Nat -> Bool) (k : Nat) (h : p k = true) : ∃ k, p k = true /\ ∀ j, j < k -> p j = false := by
 by_cases hh : ∃ j, j < k /\ p j = true
 ·obtain ⟨j, hj, hp⟩ := hh;exact least_ex p j hp
 ·refine ⟨k, h, fun j hj => ?_⟩;cases e : p j with
  | false => rfl
  | true => exact absurd ⟨j, hj, e⟩ hh
 termination_by k
theorem low_ex {x : Nat} (h0 : x ≠ 0) : ∃ k, x.testBit k = true /\ ∀ j, j < k -> x.testBit j = false := by
 obtain ⟨k, hk⟩ := Nat.exists_testBit_of_ne_zero h0;exact least_ex (fun k => x.testBit k) k hk
theorem bit_lt {x k : Nat} (hx : x < 18446744073709551616) (h : x.testBit k = true) : k < 64 := by
 rcases Nat.lt_or_ge k 64 with h1 | h1
 ·exact h1
 ·have : x.testBit k = false := Nat.testBit_lt_two_pow (Nat.lt_of_lt_of_le hx (Nat.pow_le_pow_right (by decide) h1 : 2 ^ 64 <= 2 ^ k));rw [this] at h;cases h
set_option maxRecDepth 100000 in
theorem tz_is {x k : Nat} (hx : x < 18446744073709551616) (hk : x.testBit k = true) (hl : ∀ j, j < k -> x.testBit j = false) (w : World) (hD : DebAt w) : Calls Tryz.prog 117 #[.int .u64 (x : Int)] w fun e w' => e = .returned (.int .i64 (k : Int)) /\ w' = w := by
 have hk64 := bit_lt hx hk;obtain ⟨m, hm⟩ := low_of k x hk hl;have hp := Nat.two_pow_pos k;have hand := low_and m k (by omega);rw [<- hm] at hand;obtain ⟨y, hy⟩ : ∃ y : Nat, y = 18446744073709551616 - x := ⟨_, rfl⟩
 have hneg : IntKind.u64.wrap (-(x : Int)) = (y : Int) := by
  show (-(x : Int)) % 18446744073709551616 = (y : Int);omega
 have hbits : bits .and .u64 (x : Int) (y : Int) = ((2 ^ k : Nat) : Int) := by
  rw [u64_and x y hx (by omega), hy, hand]
 obtain ⟨p, hpp⟩ : ∃ p : Nat, p = 2 ^ k := ⟨_, rfl⟩;rw [<- hpp] at hbits;obtain ⟨q, hq⟩ : ∃ q : Nat, q = (p * 285870213051353865) % 18446744073709551616 := ⟨_, rfl⟩
 have hmul : IntKind.u64.wrap ((p : Int) * 285870213051353865) = (q : Int) := by
  show ((p : Int) * 285870213051353865) % 18446744073709551616 = (q : Int);rw [hq];rfl
 obtain ⟨j, hj⟩ : ∃ j : Nat, j = q / 288230376151711744 := ⟨_, rfl⟩;have hdiv : (q : Int) / 288230376151711744 = (j : Int) := (by rw [hj]; rfl);have hj64 : j < 64 := (by rw [hj, hq]; omega)
 have hc : w.cell? ⟨0, j, none⟩ = some (.int .u8 (k : Int)) := by
  rw [hD j hj64, hj, hq, hpp, deb_at hk64]
 have hx0 : ((x : Int) == 0) = false := (by rw [beq_eq_false_iff_ne]; omega);have hjI : (j : Int) < 64 := (by omega);have hj0 : (0 : Int) <= (j : Int) := (by omega);have hkw : wrap64 (k : Int) = (k : Int) := IntWalk.wrap64_in _ (by omega);clear hk hl hD hm hand hy hpp hq hj hp hx;go_enter Tryz.func117, Tryz.ntmps117;go_wp2_with fail;go_ret;exact ⟨rfl, rfl⟩
def NextIs (x : Ix) (i : Nat) (r : Int) : Prop := (r = -1 /\ ∀ j, i <= j -> x.mem j = false) \/ ∃ j : Nat, r = (j : Int) /\ i <= j /\ x.mem j = true /\ ∀ k, i <= k -> k < j -> x.mem k = false
structure NextAt (x : Ix) (i q m : Nat) : Prop where
 lt : m < 18446744073709551616
 le : i <= 64 * q + 63
 none : ∀ j, i <= j -> j < 64 * q -> x.mem j = false
 bits : ∀ b, b < 64 -> m.testBit b = (x.mem (64 * q + b) && decide (i <= 64 * q + b))
theorem mem_word (x : Ix) (q b : Nat) (hb : b < 64) : x.mem (64 * q + b) = (wordN x.f x.ws q).testBit b := by
 unfold Ix.mem memN;rw [show (64 * q + b) / 64 = q by omega, show (64 * q + b) % 64 = b by omega]
theorem next_at_start {x : Ix} (hok : OkW x.ws) (i : Nat) : NextAt x i (i / 64) (wordN x.f x.ws (i / 64) / 2 ^ (i % 64) * 2 ^ (i % 64)) := by
 have hlt := hok.at x.f (i / 64);have hr : i % 64 < 64 := Nat.mod_lt _ (by decide);have hi : i = 64 * (i / 64) + i % 64 := (by omega);generalize hm0 : wordN x.f x.ws (i / 64) = m0 at hlt;refine ⟨Nat.lt_of_le_of_lt (Nat.div_mul_le_self _ _) hlt, by omega, fun j h1 h2 => by omega, fun b hb => ?_⟩;rw [mem_word x _ b hb, hm0, <- Nat.shiftLeft_eq, Nat.testBit_shiftLeft, <- Nat.shiftRight_eq_div_pow, Nat.testBit_shiftRight];by_cases h : i % 64 <= b
 ·rw [dqt (show b ≥ i % 64 from h), dqt (show i <= 64 * (i / 64) + b by omega), show i % 64 + (b - i % 64) = b by omega, Bool.true_and, Bool.and_true]
 ·rw [dqf (show ¬ b ≥ i % 64 from h), dqf (show ¬ i <= 64 * (i / 64) + b by omega), Bool.false_and, Bool.and_false]
theorem NextAt.go {x : Ix} {i q m : Nat} (h : NextAt x i q m) (hok : OkW x.ws) (h0 : m = 0) : NextAt x i (max (q + 1) x.f) (wordN x.f x.ws (max (q + 1) x.f)) := by
 have hz : ∀ b, b < 64 -> i <= 64 * q + b -> x.mem (64 * q + b) = false := fun b hb hi => by
  have := h.bits b hb;rw [h0, Nat.zero_testBit, dqt hi, Bool.and_true] at this;exact this.symm
 have hle := h.le;refine ⟨hok.at _ _, by omega, fun j h1 h2 => ?_, fun b hb => ?_⟩
 ·by_cases hq : j < 64 * q
  ·exact h.none j h1 hq
  ·by_cases hq2 : j < 64 * q + 64
   ·have := hz (j - 64 * q) (by omega) (by omega)
    rwa [show 64 * q + (j - 64 * q) = j by omega] at this
   ·unfold Ix.mem memN wordN;rw [if_pos (by omega), Nat.zero_testBit]
 ·rw [mem_word x _ b hb, dqt (by omega), Bool.and_true]
theorem NextAt.stop {x : Ix} {i q : Nat} (hn : ∀ j, i <= j -> j < 64 * q -> x.mem j = false) (hq : x.f + x.ws.length <= q) : NextIs x i (-1) := by
 refine .inl ⟨rfl, fun j hj => ?_⟩;by_cases h : j < 64 * q
 ·exact hn j hj h
 ·unfold Ix.mem memN wordN;split
  ·exact Nat.zero_testBit _
  ·rw [List.getD_eq_getElem?_getD, List.getElem?_eq_none (by omega)];exact Nat.zero_testBit _
theorem NextAt.found {x : Ix} {i q m k : Nat} (h : NextAt x i q m) (hk : m.testBit k = true) (hl : ∀ j, j < k -> m.testBit j = false) : NextIs x i ((64 * q + k : Nat) : Int) := by
 have hk64 := bit_lt h.lt hk;have hb := h.bits k hk64;rw [hk] at hb;have hb2 := hb.symm;rw [Bool.and_eq_true, decide_eq_true_eq] at hb2;refine .inr ⟨_, rfl, hb2.2, hb2.1, fun j h1 h2 => ?_⟩;by_cases hj : j < 64 * q
 ·exact h.none j h1 hj
 ·have e : j = 64 * q + (j - 64 * q) := (by omega);have h3 := hl (j - 64 * q) (by omega);rw [h.bits _ (by omega), <- e, dqt h1, Bool.and_true] at h3;exact h3
theorem shl_eq {m0 m1 r0 : Nat} (h : m1 = m0 / 2 ^ r0 * 2 ^ r0) (hlt : m0 < 18446744073709551616) : IntKind.u64.wrap ((m0 : Int) / 2 ^ r0 * 2 ^ r0) = (m1 : Int) := by
 have h1 : m1 <= m0 := (by rw [h]; exact Nat.div_mul_le_self _ _);have e : (m0 : Int) / 2 ^ r0 * 2 ^ r0 = (m1 : Int) := (by rw [h]; simp);rw [e];show (m1 : Int) % 18446744073709551616 = (m1 : Int);omega
theorem next_meas {a q q' : Nat} (h : q < q') (h2 : q' <= a) : a + 1 - ((q' : Int)).toNat < a + 1 - ((q : Int)).toNat := by omega
set_option maxRecDepth 100000 in
set_option maxHeartbeats 1000000 in
theorem next_ix {S : Nat -> Prop} {N : Nat} {w : World} {x : Ix} (hx : IxAt S N w x) (hN : N < 1099511627776) (i : Nat) (hi : i < 1099511627776) (hD : DebAt w) : Calls Tryz.prog 94 #[x.v, .int .i64 (i : Int)] w fun e w' => ∃ r : Int, e = .returned (.int .i64 r) /\ NextIs x i r /\ Below w.heap.size w w' := by
 obtain ⟨hq, hqw, hr, hrw, hr64, hq40⟩ := div_facts i hi;have HW := lh fun (k : Nat) (hk : k < 1099511627776) (W : World) (hW : Below w.heap.size w W) => word_is (hx.stays hW) hN k hk;have HST := lh (next_at_start hx.ok i);have HOK := lh hx.ok;have hfits := hx.fits;have HF := lh (show x.f + x.ws.length <= 17179869185 by omega);have HD := lh hD;obtain ⟨m0, em⟩ : ∃ m, m = wordN x.f x.ws (i / 64) := ⟨_, rfl⟩;have HM0 := lh em;have HLT := lh (show m0 < 18446744073709551616 by rw [em]; exact hx.ok.at _ _);obtain ⟨f, ef⟩ : ∃ f, f = x.f := ⟨_, rfl⟩;obtain ⟨n, en⟩ : ∃ n, n = x.ws.length := ⟨_, rfl⟩;have HEF := lh (aI ef en);unfold Ix.v at HW ⊢;rw [<- em] at HST;rw [<- ef, <- en] at HF HW ⊢;obtain ⟨q0, eq0⟩ : ∃ q, q = i / 64 := ⟨_, rfl⟩;obtain ⟨r0, er0⟩ : ∃ r, r = i % 64 := ⟨_, rfl⟩;rw [<- eq0] at hq hqw hq40 HST;rw [<- er0] at hr hrw hr64 HST;have HQ := lh (aI eq0 hq40);have hrI : (0 : Int) <= (r0 : Int) := Int.natCast_nonneg _;have hr64I : (r0 : Int) < 64 := Int.ofNat_lt.2 hr64;clear em ef en eq0 er0 hx hN hi hq40 hfits hD;go_enter Tryz.func94, Tryz.ntmps94;go_wp2_with fail;go_at_call 55;refine (HW.out q0 HQ.out.2 _ (bW w _)).mono ?_;rintro e w1 ⟨rfl, hb1⟩;rw [show wordN f x.ws q0 = m0 by rw [HEF.out.1, HM0.out, HQ.out.1]];have HB1 := lh hb1;obtain ⟨m1, hm1⟩ : ∃ m1, m1 = m0 / 2 ^ r0 * 2 ^ r0 := ⟨_, rfl⟩;have hshl : IntKind.u64.wrap ((m0 : Int) / 2 ^ r0 * 2 ^ r0) = (m1 : Int) := shl_eq hm1 HLT.out;have hmin : min r0 64 = r0 := Nat.min_eq_left (Nat.le_of_lt hr64);rw [<- hm1] at HST;clear hb1 hm1;have HBX := lh (show Below (w.heap.size + 1) (w.alloc (.cells #[.int .i64 (f : Int), .slice x.A n x.c] 68)) w1 by have := HB1.out; rwa [World.size_alloc] at this);go_wp2_with fail;clear hmin hshl hrI hr64I hr64 hrw hr hqw hq;go_loopw [5, 6] (fun qv mv wr => ∃ q m : Nat, qv = .int .i64 (q : Int) /\ mv = .int .u64 (m : Int) /\ q < 1099511627776 /\ Hid (NextAt x i q m) /\ Below (w.heap.size + 1) (w.alloc (.cells #[.int .i64 (f : Int), .slice x.A n x.c] 68)) wr) (fun qv _ _ => f + n + 1 - (intOf qv).toNat)
 case atStart => exact ⟨q0, m1, rfl, rfl, HQ.out.2, HST, HBX.out⟩
 case round =>
  obtain ⟨q, m, rfl, rfl, hq, HN, hbr⟩ := hrel;have hbw := (bW w _).trans (hbr.mono (Nat.le_succ _));have HBW := lh hbw;have k0 : wr.cell? ⟨w.heap.size, 0, none⟩ = some (.int .i64 (f : Int)) := (by rw [hbr.cell (by show w.heap.size < _; omega)]; simp [go_sem]);have k1 : wr.cell? ⟨w.heap.size, 1, none⟩ = some (.slice x.A n x.c) := (by rw [hbr.cell (by show w.heap.size < _; omega)]; simp [go_sem]);have HBR := lh hbr;by_cases hm : m = 0
  ·have z : ((m : Int) == 0) = true := (by rw [hm]; rfl);have HG := lh (HN.out.go HOK.out hm);have hf := HF.out;obtain ⟨q1, hq1⟩ : ∃ q1, q1 = q + 1 := ⟨_, rfl⟩;have hw1 : wrap64 ((q : Int) + 1) = (q1 : Int) := (by rw [IntWalk.wrap64_in _ (by omega)]; omega);obtain ⟨s, hs⟩ : ∃ s, s = f + n := ⟨_, rfl⟩;have hsum : wrap64 ((f : Int) + (n : Int)) = (s : Int) := (by rw [IntWalk.wrap64_in _ (by omega)]; omega);rw [<- hq1] at HG;by_cases hcm0 : q1 < f
   ·have hcm : (q1 : Int) < (f : Int) := (by omega);have hmx : max q1 f = f := (by omega);clear hcm0;have zc0 := hcm;rw [<- HEF.out.1, hmx] at HG;by_cases hle : s <= f
    ·have zc : decide ((s : Int) <= (f : Int)) = true := dqt (by omega);have zcn : decide (s <= f) = true := dqt hle;have zcp : (s : Int) <= (f : Int) := (by omega);have HST2 := lh (NextAt.stop (x := x) (i := i) (q := f) HG.out.none (by rw [<- HEF.out.1, <- HEF.out.2]; omega));clear hq hbr hbw hm hq1 hf hs hle hmx hcm;go_wp2_with fail;go_ret;exact ⟨-1, rfl, HST2.out, HBW.out⟩
    ·have zc : decide ((s : Int) <= (f : Int)) = false := dqf (by omega);have zcn : decide (s <= f) = false := dqf hle;have zcp : ¬ (s : Int) <= (f : Int) := (by omega);have HQ2 := lh (show f < 1099511627776 /\ q < f /\ f <= f + n by omega);clear hq hbr hbw hm hq1 hf hs hle hmx hcm;go_wp2_with fail;go_at_call 55;refine (HW.out f HQ2.out.1 _ HBW.out).mono ?_;rintro e w2 ⟨rfl, hb2⟩;have HB2 := lh (HBR.out.trans (hb2.mono (by have := HBR.out.size; rwa [World.size_alloc] at this)));clear hb2 hw1 hsum k0 k1;go_wp2_with fail;go_roundw
     case rel => exact ⟨f, wordN f x.ws f, rfl, rfl, HQ2.out.1, HG, HB2.out⟩
     case measure => simp only [intOf]; exact next_meas HQ2.out.2.1 HQ2.out.2.2
   ·have hcm : (f : Int) <= (q1 : Int) := (by omega);have hmx : max q1 f = q1 := (by omega);clear hcm0;have zc0 := hcm;rw [<- HEF.out.1, hmx] at HG;by_cases hle : s <= q1
    ·have zc : decide ((s : Int) <= (q1 : Int)) = true := dqt (by omega);have zcn : decide (s <= q1) = true := dqt hle;have zcp : (s : Int) <= (q1 : Int) := (by omega);have HST2 := lh (NextAt.stop (x := x) (i := i) (q := q1) HG.out.none (by rw [<- HEF.out.1, <- HEF.out.2]; omega));clear hq hbr hbw hm hq1 hf hs hle hmx hcm;go_wp2_with fail;go_ret;exact ⟨-1, rfl, HST2.out, HBW.out⟩
    ·have zc : decide ((s : Int) <= (q1 : Int)) = false := dqf (by omega);have zcn : decide (s <= q1) = false := dqf hle;have zcp : ¬ (s : Int) <= (q1 : Int) := (by omega);have HQ2 := lh (show q1 < 1099511627776 /\ q < q1 /\ q1 <= f + n by omega);clear hq hbr hbw hm hq1 hf hs hle hmx hcm;go_wp2_with fail;go_at_call 55;refine (HW.out q1 HQ2.out.1 _ HBW.out).mono ?_;rintro e w2 ⟨rfl, hb2⟩;have HB2 := lh (HBR.out.trans (hb2.mono (by have := HBR.out.size; rwa [World.size_alloc] at this)));clear hb2 hw1 hsum k0 k1;go_wp2_with fail;go_roundw
     case rel => exact ⟨q1, wordN f x.ws q1, rfl, rfl, HQ2.out.1, HG, HB2.out⟩
     case measure => simp only [intOf]; exact next_meas HQ2.out.2.1 HQ2.out.2.2
  ·have z : ((m : Int) == 0) = false := (by rw [beq_eq_false_iff_ne]; omega);obtain ⟨k, hk, hl⟩ := low_ex hm;have hk64 := bit_lt HN.out.lt hk;have HT := lh (tz_is HN.out.lt hk hl wr (HD.out.below HBW.out));have HFD := lh (HN.out.found hk hl);have hw1 : wrap64 ((q : Int) * 64) = ((64 * q : Nat) : Int) := (by rw [IntWalk.wrap64_in _ (by omega)]; omega);have hw2 : wrap64 (((64 * q : Nat) : Int) + (k : Int)) = ((64 * q + k : Nat) : Int) := (by rw [IntWalk.wrap64_in _ (by omega)]; omega);obtain ⟨p, hp⟩ : ∃ p, p = 64 * q := ⟨_, rfl⟩;obtain ⟨r, hr⟩ : ∃ r, r = p + k := ⟨_, rfl⟩;rw [<- hp] at hw1 hw2 HFD;rw [<- hr] at hw2 HFD;clear hq hbr hbw hm hk hl hk64 hp hr;go_wp2_with fail;go_at_call 117;refine HT.out.mono ?_;rintro e w2 ⟨rfl, hw⟩;subst w2;go_wp2_with fail;go_ret;exact ⟨(r : Int), by rw [<- hw2]; rfl, HFD.out, HBW.out⟩
open Go.RowKit Go.Deep Go.Sort
def EmpC (x : Ix) (w : World) (e : Ending) (w' : World) : Prop := ∃ b, e = .returned (.bool b) /\ (b = true -> ∀ j, x.mem j = false) /\ (b = false -> ∃ j, x.mem j = true) /\ Below w.heap.size w w'
set_option maxRecDepth 100000 in
theorem empty_ix {S : Nat -> Prop} {N : Nat} {w : World} {x : Ix} (hx : IxAt S N w x) (hN : N < 1099511627776) (hD : DebAt w) : Calls Tryz.prog 78 #[x.v] w (EmpC x w) := by
 have HNX := lh fun (W : World) (hW : Below w.heap.size w W) => next_ix (hx.stays hW) hN 0 (by decide) (hD.below hW);unfold Ix.v at HNX ⊢;clear hx hN hD;go_enter Tryz.func78, Tryz.ntmps78;go_wp2_with fail;go_at_call 94;refine (HNX.out _ (bW w _)).mono ?_;rintro e w1 ⟨r, rfl, hr, hb⟩;have HB := lh ((bW w _).trans (hb.mono (by rw [World.size_alloc]; omega)));clear hb;rcases hr with ⟨rfl, hn⟩ | ⟨j, rfl, _, hj, _⟩
 ·have HN := lh hn;clear hn;go_wp2_with fail;go_ret;exact ⟨true, rfl, fun _ j => HN.out j (Nat.zero_le _), (fun h => by cases h), HB.out⟩
 ·have z : decide ((j : Int) < 0) = false := dqf (by omega);have HJ := lh hj;clear hj;go_wp2_with fail;go_ret;exact ⟨false, rfl, (fun h => by cases h), fun _ => ⟨j, HJ.out⟩, HB.out⟩
def AloneC (x : Ix) (w : World) (e : Ending) (w' : World) : Prop := ∃ (r : Int) (b : Bool), e = .returned (.tuple #[.int .i64 r, .bool b]) /\ (b = true -> ∃ j : Nat, r = (j : Int) /\ x.mem j = true /\ ∀ k, x.mem k = true -> k = j) /\ Below w.heap.size w w'
theorem IxAt.mem_lt {S : Nat -> Prop} {N : Nat} {w : World} {x : Ix} (hx : IxAt S N w x) {j : Nat} (h : x.mem j = true) : j < 64 * (N / 64 + 1) := by
 have hf := hx.fits;unfold Ix.mem memN wordN at h;split at h
 ·rw [Nat.zero_testBit] at h; cases h
 ·rw [List.getD_eq_getElem?_getD] at h;rcases Nat.lt_or_ge (j / 64 - x.f) x.ws.length with h1 | h1
  ·omega
  ·rw [List.getElem?_eq_none h1] at h;simp at h
set_option maxRecDepth 100000 in
theorem alone_ix {S : Nat -> Prop} {N : Nat} {w : World} {x : Ix} (hx : IxAt S N w x) (hN : N < 1000000000000) (hD : DebAt w) : Calls Tryz.prog 80 #[x.v] w (AloneC x w) := by
 have HNX := lh fun (i : Nat) (hi : i < 1099511627776) (W : World) (hW : Below w.heap.size w W) => next_ix (hx.stays hW) (by omega) i hi (hD.below hW);have HLT := lh fun (j : Nat) (h : x.mem j = true) => (show j + 1 < 1099511627776 by have := hx.mem_lt h; omega);unfold Ix.v at HNX ⊢;clear hx hN hD;go_enter Tryz.func80, Tryz.ntmps80;go_wp2_with fail;go_at_call 94;refine (HNX.out 0 (by decide) _ (bW w _)).mono ?_;rintro e w1 ⟨r, rfl, hr, hb⟩;have HB := lh ((bW w _).trans (hb.mono (by rw [World.size_alloc]; omega)));have k0 : w1.cell? ⟨w.heap.size, 0, none⟩ = some (.int .i64 (x.f : Int)) := (by rw [hb.cell (by rw [World.size_alloc]; show w.heap.size < _; omega)]; simp [go_sem]);have k1 : w1.cell? ⟨w.heap.size, 1, none⟩ = some (.slice x.A x.ws.length x.c) := (by rw [hb.cell (by rw [World.size_alloc]; show w.heap.size < _; omega)]; simp [go_sem]);clear hb;rcases hr with ⟨rfl, hn⟩ | ⟨j, rfl, _, hj, hl⟩
 ·clear hn;go_wp2_with fail;go_ret2
  exact ⟨-1, false, rfl, (fun h => by cases h), HB.out⟩
 ·have z : decide ((0 : Int) <= (j : Int)) = true := dqt (by omega);have hlt := HLT.out j hj;have hw : wrap64 ((j : Int) + 1) = ((j + 1 : Nat) : Int) := IntWalk.wrap64_in _ (by omega);obtain ⟨q, hq⟩ : ∃ q, q = j + 1 := ⟨_, rfl⟩;rw [<- hq] at hw hlt;have HQ := lh (aI hq hlt);have HJ := lh (aI hj hl);clear hj hl hq hlt;go_wp2_with fail;go_at_call 94;refine (HNX.out q HQ.out.2 _ HB.out).mono ?_;rintro e w2 ⟨r2, rfl, hr2, hb2⟩;have HB2 := lh (HB.out.trans (hb2.mono HB.out.size));clear hb2;rcases hr2 with ⟨rfl, hn2⟩ | ⟨j2, rfl, _, hj2, _⟩
  ·have HN2 := lh hn2;clear hn2;go_wp2_with fail;go_ret2
   refine ⟨(j : Int), true, rfl, fun _ => ⟨j, rfl, HJ.out.1, fun k hk => ?_⟩, HB2.out⟩;rcases Nat.lt_trichotomy k j with h | h | h
   ·have := HJ.out.2 k (Nat.zero_le _) h;rw [this] at hk;cases hk
   ·exact h
   ·have := HN2.out k (by rw [HQ.out.1]; omega);rw [this] at hk;cases hk
  ·have z2 : decide ((j2 : Int) < 0) = false := dqf (by omega);clear hj2;go_wp2_with fail;go_ret2
   exact ⟨(j : Int), false, rfl, (fun h => by cases h), HB2.out⟩
end Go.Proofs.YtflkfleihlceeaaGreatDoor

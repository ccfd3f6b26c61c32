import Derived.Test.YtflkfleihlceeaaGreatDoorD09
import Derived.Test.YtflkfleihlceeaaGreatDoorD04
import Derived.Deep.RegionLaw
import Derived.Laws.OwnMore
import Derived.Deep.RegionWith
import Derived.Laws.BitsAllLaws
/-
 A set of the call's own in a box: grow. No condition but those named at each law.
-/
namespace Go.Proofs.YtflkfleihlceeaaGreatDoor
open Go.RowKit Go.Deep Go.Sort
theorem Turned.put' {S : Nat -> Prop} {a b : World} (h : Turned S a b) {k : Nat} (hk : S k) (i : Nat) (v : Value) : Turned S a (b.setCell ⟨k, i, none⟩ v) := by
 refine ⟨?_, ?_, ?_, ?_, fun j hj hn => ?_⟩
 ·have := h.os; simpa [World.setCell] using this
 ·have := h.tape; simpa [World.setCell] using this
 ·have := h.output; simpa [World.setCell] using this
 ·have := h.size; simpa [World.setCell] using this
 ·rw [<- h.block j hj hn];have hne : k ≠ j := fun e => hn (e ▸ hk);simp only [World.setCell];rw [Array.getElem?_modify, if_neg hne]
def Ix.sl (x : Ix) : Value := .slice x.A x.ws.length x.c
structure OwnI (w : World) (B p : Nat) (x : Ix) : Prop where
 c0 : w.cell? ⟨p, 0, none⟩ = some (.int .i64 (x.f : Int))
 c1 : w.cell? ⟨p, 1, none⟩ = some (.slice x.A x.ws.length x.c)
 f0 : w.frozen? ⟨p, 0, none⟩ = false
 f1 : w.frozen? ⟨p, 1, none⟩ = false
 row : w.ownsRow B 23 1 (.slice x.A x.ws.length x.c) x.ws.length (wsV x.ws)
 ok : OkW x.ws
 ne : ∀ g, x.sl.ownBlock = some g -> g ≠ p
def Tch (p : Nat) (x : Ix) (k : Nat) : Prop := k = p \/ x.sl.ownBlock = some k
theorem step_append_run {w w' : World} {ops : Array Oper} {o : Oper} {a : Act} {K : Act -> World -> Prop} {Q : Exit -> Act -> World -> Prop} {E : Prop} {t tn : TypeId} {v u r : Value} (hap : (Builtin.append_ #[t, tn] o.type #[v, u]).run Tryz.prog w = .ok r w') (hgd : o.guard = none) (s x : Operand)
  (ho : o.op = .call { callee := .builtin .append, args := #[s, x], argTypes := #[t, tn] }) (hs : a.eval s = v) (hx : a.eval x = u) (h : K (a.put o.dst r) w') :
  if Region.wanted o (yielded ops a.tmps) = true then Oper.wp Tryz.prog o a w K Q else E := by
 have hw : Region.wanted o (yielded ops a.tmps) = true := (by simp [Region.wanted, hgd]);rw [if_pos hw];unfold Oper.wp execOp;simp only [ho, resolve, invoke, builtin, Sem.run_bind, Sem.run_pure, Result.andThen_ok, List.map_toArray, List.map_cons, List.map_nil, hs, hx, hap];exact h
def GrowC (B p : Nat) (x : Ix) (n : Nat) (w : World) (e : Ending) (w' : World) : Prop := e = .returned (.tuple #[]) /\ ∃ A' c', OwnI w' B p ⟨x.f, x.ws ++ List.replicate (n - x.ws.length) 0, A', c'⟩ /\ Turned (Tch p x) w w' ∧
 ∀ k, (Ix.sl ⟨x.f, x.ws ++ List.replicate (n - x.ws.length) 0, A', c'⟩).ownBlock = some k -> x.sl.ownBlock = some k \/ w.heap.size <= k
theorem wsV_zeros (ws : List Nat) (k : Nat) : wsV ws ++ List.replicate k Z64 = wsV (ws ++ List.replicate k 0) := by simp [wsV]
theorem OkW.zeros {ws : List Nat} (h : OkW ws) (k : Nat) : OkW (ws ++ List.replicate k 0) := fun m hm => by
 rcases List.mem_append.1 hm with hm | hm
 ·exact h m hm
 ·rw [List.eq_of_mem_replicate hm]; decide
theorem grow_post {w w' : World} {B p : Nat} {x : Ix} (HO : OwnI w B p x) {n m k : Nat} (hk : k = n - m) (hm : m = x.ws.length) (hpl : p < w.heap.size) (hpn : some p ≠ (Value.slice x.A m x.c).ownBlock) {A' : Option Addr} {c' : Nat}
  (hown : w'.ownsRow B 23 1 (.slice A' (m + k) c') (m + k) (wsV x.ws ++ List.replicate k Z64)) (hgr : w.drew.grownBy w' (Value.slice x.A m x.c).ownBlock) (hkk : ∀ j, (Value.slice A' (m + k) c').ownBlock = some j -> (Value.slice x.A m x.c).ownBlock = some j \/ w.drew.heap.size <= j)
  (d0 : w'.cell? ⟨p, 0, none⟩ = some (.int .i64 (x.f : Int))) (g0 : w'.frozen? ⟨p, 0, none⟩ = false) (d1 : w'.cell? ⟨p, 1, none⟩ = some (.slice x.A m x.c)) (g1 : w'.frozen? ⟨p, 1, none⟩ = false) :
  ∃ A2 c'', OwnI (w'.setCell ⟨p, 1, none⟩ (.slice A' (m + k) c')) B p ⟨x.f, x.ws ++ List.replicate (n - x.ws.length) 0, A2, c''⟩ /\ Turned (Tch p x) w (w'.setCell ⟨p, 1, none⟩ (.slice A' (m + k) c')) ∧
   ∀ k, (Ix.sl ⟨x.f, x.ws ++ List.replicate (n - x.ws.length) 0, A2, c''⟩).ownBlock = some k -> x.sl.ownBlock = some k \/ w.heap.size <= k := by
 subst hm;rw [wsV_zeros] at hown;rw [<- hk];have hlen : (x.ws ++ List.replicate k 0).length = x.ws.length + k := (by simp)
 have hne : ∀ g, (Value.slice A' (x.ws.length + k) c').ownBlock = some g -> g ≠ p := fun g hg => by
  rcases hkk g hg with h | h
  ·exact HO.ne g h
  ·intro e;rw [e] at h;exact absurd hpl (Nat.not_lt.2 h)
 have ht : Turned (· = p) w' (w'.setCell ⟨p, 1, none⟩ (.slice A' (x.ws.length + k) c')) := (Turned.refl (· = p) w').put' rfl 1 _;refine ⟨A', c', ⟨by simp [go_sem, d0], by simp [go_sem, d1, hlen], by simp [go_sem, g0], by simp [go_sem, g1], ?_, HO.ok.zeros k, ?_⟩, ?_, ?_⟩
 ·show (w'.setCell ⟨p, 1, none⟩ (.slice A' (x.ws.length + k) c')).ownsRow B 23 1 (.slice A' (x.ws ++ List.replicate k 0).length c') (x.ws ++ List.replicate k 0).length (wsV (x.ws ++ List.replicate k 0));rw [hlen];exact ownsRow_turned hown ht fun g hg => hne g hg
 ·intro g hg;unfold Ix.sl at hg;simp only [hlen] at hg;exact hne g hg
 ·refine Turned.trans (S := Tch p x) (T := fun j => j = p) ⟨hgr.os, hgr.tape, hgr.output, hgr.size, fun j hj hn => ?_⟩ ht fun j _ hj => .inl hj;exact hgr.block j hj fun e => hn (.inr e.symm)
 ·intro j hj;unfold Ix.sl at hj;simp only [hlen] at hj;exact hkk j hj
set_option maxRecDepth 100000 in
theorem grow_is {w : World} {B p : Nat} {x : Ix} (h : OwnI w B p x) (hB : B <= w.heap.size) (n : Nat) (hn : n <= 1099511627776) : Calls Tryz.prog 83 #[.pointer (some ⟨p, 0, none⟩), .int .i64 (n : Int)] w (GrowC B p x n w) := by
 have HO := lh h;obtain ⟨c0, c1, f0, f1, hrow, hok, hne⟩ := h;obtain ⟨m, hm⟩ : ∃ m, m = x.ws.length := ⟨_, rfl⟩;rw [<- hm] at c1 hrow;by_cases hle : n <= m
 ·have z : decide ((m : Int) < (n : Int)) = false := dqf (by omega);have zn : decide (m < n) = false := dqf (by omega);have HL := lh (show n - x.ws.length = 0 by omega);clear hrow hok hne hm hle hn hB;go_enter Tryz.func83, Tryz.ntmps83;go_wp2_with fail;go_end0
  refine ⟨rfl, x.A, x.c, ?_, Turned.refl _ _, fun k hk => .inl ?_⟩
  ·rw [HL.out, List.replicate_zero, List.append_nil];exact HO.out
  ·rw [HL.out, List.replicate_zero, List.append_nil] at hk;exact hk
 ·have z : decide ((m : Int) < (n : Int)) = true := dqt (by omega);have zn : decide (m < n) = true := dqt (by omega);obtain ⟨k, hk⟩ : ∃ k, k = n - m := ⟨_, rfl⟩;have hkI : IntKind.i64.wrap ((n : Int) - (m : Int)) = (k : Int) := (by rw [show (n : Int) - (m : Int) = (k : Int) by omega]; exact IntWalk.i64_in _ (by omega));have hrd : w.drew.ownsRow B 23 1 (.slice x.A m x.c) m (wsV x.ws) := hrow;obtain ⟨v', w', hap, hown', hgr, hkk⟩ := run_append_zeros hrd k (by omega) (by omega) hB;obtain ⟨A', c', ev, hcc, _, _⟩ := own_form hown';subst ev;have hpl : p < w.heap.size := World.block_lt_of_cell? w ⟨p, 0, none⟩ c0;have hpn : some p ≠ (Value.slice x.A m x.c).ownBlock := fun e => hne p (by unfold Ix.sl; rw [<- hm]; exact e.symm) rfl;have d0 : w'.cell? ⟨p, 0, none⟩ = some (.int .i64 (x.f : Int)) := (hgr.cell_far ⟨p, 0, none⟩ hpl hpn).trans c0;have d1 : w'.cell? ⟨p, 1, none⟩ = some (.slice x.A m x.c) := (hgr.cell_far ⟨p, 1, none⟩ hpl hpn).trans c1;have g0 : w'.frozen? ⟨p, 0, none⟩ = false := (hgr.frozen_far ⟨p, 0, none⟩ hpl hpn).trans f0;have g1 : w'.frozen? ⟨p, 1, none⟩ = false := (hgr.frozen_far ⟨p, 1, none⟩ hpl hpn).trans f1;have HAP := lh hap;have HG := lh (aI hown' (aI hgr hkk));have HKM := lh (aI hk (aI hm (aI hpl hpn)));clear hrow hok hne hm hle hn hB hrd hap hown' hgr hkk hk hpl hpn;go_enter Tryz.func83, Tryz.ntmps83;go_wp2_with fail
  go_region_law (refine step_append_run HAP.out rfl (.tmp 15) (.tmp 22) rfl (by simp [Act.eval, Act.put]) (by simp [Act.eval, Act.put]) ?_)
  all_goals
   go_end0
   obtain ⟨a1, a2, h1, h2, h3⟩ := grow_post HO.out HKM.out.1 HKM.out.2.1 HKM.out.2.2.1 HKM.out.2.2.2 HG.out.1 HG.out.2.1 HG.out.2.2 d0 g0 d1 g1;exact ⟨rfl, a1, a2, h1, h2, h3⟩
open Go.RowKit Go.Deep Go.Sort
theorem OwnI.row_cell {w : World} {B p : Nat} {x : Ix} (h : OwnI w B p x) {j m : Nat} (hj : x.ws[j]? = some m) : ∃ g, x.A = some ⟨g, 0, none⟩ /\ x.sl.ownBlock = some g /\ w.cell? ⟨g, j, none⟩ = some (.int .u64 (m : Int)) /\ w.frozen? ⟨g, j, none⟩ = false := by
 rcases h.row.2 with ⟨e, hn⟩ | ⟨g, cap, cur, e, hb, hg, hnc, hcm, hcs, htake⟩
 ·rw [List.getElem?_eq_none (by omega)] at hj;cases hj
 ·injection e with e1 e2 e3;have hc := World.ownsRow.cells h.row (g := g) (by rw [e1]; rfl) j _ (wsV_at hj);rw [Addr.add_mid, Nat.zero_add] at hc;refine ⟨g, e1, by unfold Ix.sl; rw [e1]; rfl, hc, ?_⟩;simp [World.frozen?, hg]
theorem OwnI.put {w : World} {B p : Nat} {x : Ix} (h : OwnI w B p x) {g : Nat} (hA : x.A = some ⟨g, 0, none⟩) (j m : Nat) (hm : m < 18446744073709551616) : OwnI (w.setCell ⟨g, j, none⟩ (.int .u64 (m : Int))) B p ⟨x.f, x.ws.set j m, x.A, x.c⟩ := by
 have hgp : g ≠ p := h.ne g (by unfold Ix.sl; rw [hA]; rfl);have ht := (Turned.refl (fun k => k = g) w).put' (k := g) rfl j (.int .u64 (m : Int));have hpl : p < w.heap.size := World.block_lt_of_cell? w ⟨p, 0, none⟩ h.c0;have hlen : (x.ws.set j m).length = x.ws.length := List.length_set ..;refine ⟨ht.cell h.c0 (fun e => hgp e.symm), ?_, ?_, ?_, ?_, ?_, ?_⟩
 ·rw [hlen]; exact ht.cell h.c1 (fun e => hgp e.symm)
 ·rw [World.frozen?_of_block (ht.block p hpl (fun e => hgp e.symm))]; exact h.f0
 ·rw [World.frozen?_of_block (ht.block p hpl (fun e => hgp e.symm))]; exact h.f1
 ·have hr := h.row;rw [hA] at hr;have h2 := (World.ownsRow.stored hr j (.int .u64 (m : Int))).1;show (w.setCell ⟨g, j, none⟩ (.int .u64 (m : Int))).ownsRow B 23 1 (.slice x.A (x.ws.set j m).length x.c) (x.ws.set j m).length (wsV (x.ws.set j m));rw [hlen, hA, show wsV (x.ws.set j m) = (wsV x.ws).set j (.int .u64 (m : Int)) by simp [wsV, List.map_set]];exact h2
 ·intro q hq;rcases List.mem_or_eq_of_mem_set hq with hq | hq
  ·exact h.ok q hq
  ·rw [hq]; exact hm
 ·intro q hq;unfold Ix.sl at hq;rw [hlen] at hq;exact h.ne q hq
theorem mem_zeros (f : Nat) (ws : List Nat) (k j : Nat) : memN f (ws ++ List.replicate k 0) j = memN f ws j := by
 unfold memN wordN;split
 ·rfl
 ·rw [List.getD_eq_getElem?_getD, List.getD_eq_getElem?_getD];rcases Nat.lt_or_ge (j / 64 - f) ws.length with h | h
  ·rw [List.getElem?_append_left h]
  ·rw [List.getElem?_append_right h, List.getElem?_eq_none h, List.getElem?_replicate];split <;> rfl
theorem mem_set {f : Nat} {ws : List Nat} {q m : Nat} (hq : q < ws.length) (j : Nat) : memN f (ws.set q m) j = if j / 64 = f + q then m.testBit (j % 64) else memN f ws j := by
 unfold memN wordN;by_cases h : j / 64 < f
 ·rw [if_pos h, if_pos h, if_neg (by omega)]
 ·rw [if_neg h, if_neg h, List.getD_eq_getElem?_getD, List.getD_eq_getElem?_getD, List.getElem?_set];by_cases e : j / 64 = f + q
  ·rw [if_pos e, if_pos (by omega), if_pos hq];rfl
  ·rw [if_neg e, if_neg (by omega)]
theorem or_lt {a r : Nat} (h : a < 18446744073709551616) (hr : r < 64) : a ||| 2 ^ r < 18446744073709551616 :=
 Nat.or_lt_two_pow (n := 64) h (Nat.pow_lt_pow_right (by decide) hr)
theorem mem_add {f i : Nat} {ws : List Nat} (hf : f <= i / 64) (hq : i / 64 - f < ws.length) (j : Nat) : memN f (ws.set (i / 64 - f) (ws.getD (i / 64 - f) 0 ||| 2 ^ (i % 64))) j = (memN f ws j || decide (j = i)) := by
 rw [mem_set hq];by_cases e : j / 64 = i / 64
 ·rw [if_pos (by omega), Nat.testBit_or, Nat.testBit_two_pow];have e2 : memN f ws j = (ws.getD (i / 64 - f) 0).testBit (j % 64) := (by unfold memN wordN; rw [if_neg (by omega), e]);rw [e2]
  congr 1
  exact decide_eq_decide.2 ⟨fun h => by omega, fun h => by omega⟩
 ·rw [if_neg (by omega), dqf (show ¬ j = i from fun h => e (by rw [h])), Bool.or_false]
def AddC (B p : Nat) (x : Ix) (P : Nat -> Bool) (n : Nat) (w : World) (e : Ending) (w' : World) : Prop := e = .returned (.tuple #[]) /\ ∃ ws' A' c', OwnI w' B p ⟨x.f, ws', A', c'⟩ /\ (∀ j, memN x.f ws' j = (memN x.f x.ws j || P j)) /\ ws'.length = max x.ws.length n /\ Turned (Tch p x) w w' ∧
 ∀ k, (Ix.sl ⟨x.f, ws', A', c'⟩).ownBlock = some k -> x.sl.ownBlock = some k \/ w.heap.size <= k
theorem Turned.drew' {S : Nat -> Prop} {a b : World} (h : Turned S a b) : Turned S a b.drew := ⟨h.os, h.tape, h.output, h.size, h.block⟩
theorem OwnI.drew {w : World} {B p : Nat} {x : Ix} (h : OwnI w B p x) : OwnI w.drew B p x := ⟨h.c0, h.c1, h.f0, h.f1, h.row, h.ok, h.ne⟩
theorem add_post {w w1 : World} {B p i t n1 r m m2 g : Nat} {x : Ix} {ws1 : List Nat} {A' : Option Addr} {c' : Nat} (_hx : OwnI w B p x) (hO : OwnI w1 B p ⟨x.f, ws1, A', c'⟩) (hT : Turned (Tch p x) w w1) (hk : ∀ k, (Ix.sl ⟨x.f, ws1, A', c'⟩).ownBlock = some k -> x.sl.ownBlock = some k \/ w.heap.size <= k)
  (hws : ws1 = x.ws ++ List.replicate (n1 - x.ws.length) 0) (htl : t < ws1.length) (hgd : ws1.getD t 0 = m) (hm2 : m2 = m ||| 2 ^ r) (hm264 : m2 < 18446744073709551616) (hA : A' = some ⟨g, 0, none⟩)
  (hI : ∀ ws : List Nat, t < ws.length -> ∀ j, memN x.f (ws.set t (ws.getD t 0 ||| 2 ^ (i % 64))) j = (memN x.f ws j || decide (j = i))) (hr : r = i % 64) (hn1 : n1 = t + 1) :
  ∃ ws' A2 c2, OwnI (w1.setCell ⟨g, t, none⟩ (.int .u64 (m2 : Int))).drew B p ⟨x.f, ws', A2, c2⟩ /\ (∀ j, memN x.f ws' j = (memN x.f x.ws j || decide (j = i))) /\ ws'.length = max x.ws.length (t + 1) /\ Turned (Tch p x) w (w1.setCell ⟨g, t, none⟩ (.int .u64 (m2 : Int))).drew ∧
   ∀ k, (Ix.sl ⟨x.f, ws', A2, c2⟩).ownBlock = some k -> x.sl.ownBlock = some k \/ w.heap.size <= k := by
 have hlen : (ws1.set t m2).length = ws1.length := List.length_set ..;have hgb : (Ix.sl ⟨x.f, ws1, A', c'⟩).ownBlock = some g := (by rw [hA]; rfl);refine ⟨ws1.set t m2, A', c', (hO.put (x := ⟨x.f, ws1, A', c'⟩) hA t m2 hm264).drew, fun j => ?_, ?_, ?_, fun k hk2 => ?_⟩
 ·have h := hI ws1 htl j;rw [hgd, <- hr, <- hm2] at h;rw [h, hws, mem_zeros]
 ·rw [hlen, hws];simp;omega
 ·refine Turned.drew' (Turned.trans (T := fun k => k = g) hT ((Turned.refl (fun k => k = g) w1).put' rfl t _) fun k hkl hkg => ?_);subst hkg;rcases hk k hgb with h | h
  ·exact .inr h
  ·exact absurd hkl (Nat.not_lt.2 h)
 ·refine hk k ?_;have : (Ix.sl ⟨x.f, ws1.set t m2, A', c'⟩) = Ix.sl ⟨x.f, ws1, A', c'⟩ := (by unfold Ix.sl; simp only [hlen]);rw [<- this];exact hk2
set_option maxRecDepth 100000 in
set_option maxHeartbeats 1000000 in
theorem add_is {w : World} {B p : Nat} {x : Ix} (h : OwnI w B p x) (hB : B <= w.heap.size) (i : Nat) (hf : x.f <= i / 64) (hi : i < 1099511627776) : Calls Tryz.prog 53 #[.pointer (some ⟨p, 0, none⟩), .int .i64 (i : Int)] w (AddC B p x (fun j => decide (j = i)) (i / 64 - x.f + 1) w) := by
 obtain ⟨hq, hqw, hr, hrw, hr64, hq40⟩ := div_facts i hi;obtain ⟨t, ht⟩ : ∃ t, t = i / 64 - x.f := ⟨_, rfl⟩;have hsub : wrap64 (((i / 64 : Nat) : Int) - (x.f : Int)) = (t : Int) := (by rw [IntWalk.wrap64_in _ (by omega)]; omega);have HG := lh (grow_is h hB (t + 1) (by omega));have hs1 : wrap64 ((t : Int) + 1) = ((t + 1 : Nat) : Int) := IntWalk.wrap64_in _ (by omega);obtain ⟨n1, hn1⟩ : ∃ n, n = t + 1 := ⟨_, rfl⟩;rw [<- hn1] at HG hs1;have c0 := h.c0;have HT := lh (aI ht (aI hf hn1));have HX := lh h;have HI := lh fun ws => mem_add (f := x.f) (i := i) (ws := ws) hf;obtain ⟨q, eq⟩ : ∃ q, q = i / 64 := ⟨_, rfl⟩;obtain ⟨r, er⟩ : ∃ r, r = i % 64 := ⟨_, rfl⟩;rw [<- eq] at hq hqw hsub;rw [<- er] at hr hrw hr64;rw [<- ht] at HI;have HR := lh (aI er hr64);have hrI : (0 : Int) <= (r : Int) := Int.natCast_nonneg _;have hr64I : (r : Int) < 64 := Int.ofNat_lt.2 hr64;have hmin : min r 64 = r := Nat.min_eq_left (Nat.le_of_lt hr64);rw [<- ht];unfold AddC;clear h hB hf hi hq40 ht eq er hn1;go_enter Tryz.func53, Tryz.ntmps53;go_wp2_with fail;go_at_call 83;refine HG.out.mono ?_;rintro e w1 ⟨rfl, A', c', hO, hT, hk⟩;obtain ⟨ws1, hws1⟩ : ∃ ws, ws = x.ws ++ List.replicate (n1 - x.ws.length) 0 := ⟨_, rfl⟩;rw [<- hws1] at hO hk;have htl : t < ws1.length := (by rw [hws1]; have := HT.out.2.2; simp; omega);obtain ⟨m, hm⟩ : ∃ m, ws1[t]? = some m := ⟨ws1[t]'htl, List.getElem?_eq_getElem _⟩;obtain ⟨g, hA, hbk, hc, hfz⟩ := hO.row_cell hm;have hm64 : m < 18446744073709551616 := hO.ok m (List.mem_of_getElem? hm);have hgd : ws1.getD t 0 = m := (by rw [List.getD_eq_getElem?_getD, hm]; rfl);obtain ⟨m2, hm2⟩ : ∃ m2, m2 = m ||| 2 ^ r := ⟨_, rfl⟩;have hm264 : m2 < 18446744073709551616 := (by rw [hm2]; exact or_lt hm64 hr64);have d1 := hO.c1;simp only at d1 hA hc hfz;rw [hA] at d1;obtain ⟨L, hL⟩ : ∃ L, L = ws1.length := ⟨_, rfl⟩;rw [<- hL] at d1;have htI : (t : Int) < (L : Int) := (by omega);have ht0 : (0 : Int) <= (t : Int) := Int.natCast_nonneg _;have HO := lh (aI hO (aI hT hk));have HM := lh (aI hws1 (aI htl (aI hgd (aI hm2 (aI hm264 hA)))));clear hO hT hk hws1 htl hm hbk hm264 hgd hL c0;go_wp2_with fail;obtain ⟨b, hb⟩ : ∃ b : Nat, b = 2 ^ r := ⟨_, rfl⟩;have hb64 : b < 18446744073709551616 := (by rw [hb]; exact Nat.pow_lt_pow_right (by decide) hr64);have hpw : ((2 : Int) ^ r) = (b : Int) := (by rw [hb]; simp)
 have hbw : IntKind.u64.wrap (b : Int) = (b : Int) := by
  show (b : Int) % 18446744073709551616 = (b : Int);omega
 have hor : bits .or .u64 (m : Int) (b : Int) = (m2 : Int) := (by rw [bits_or_u64_nat m b hm64 hb64, HM.out.2.2.2.1, hb]);clear hb hb64 hm64 hm2
 go_region
 all_goals
  go_end0
  exact ⟨rfl, add_post HX.out HO.out.1 HO.out.2.1 HO.out.2.2 HM.out.1 HM.out.2.1 HM.out.2.2.1 HM.out.2.2.2.1 HM.out.2.2.2.2.1 HM.out.2.2.2.2.2 HI.out HR.out.1 HT.out.2.2⟩
open Go.RowKit Go.Deep Go.Sort
def Ix.low (x : Ix) (a : Nat) : Prop := x.ws = [] \/ a / 64 <= x.f
structure MadeI (S : Nat -> Prop) (N a : Nat) (w w' : World) (x : Ix) (P : Nat -> Bool) : Prop where
 at' : IxAt S N w' x
 is : ∀ j, x.mem j = P j
 low : x.low a
def RetI (S : Nat -> Prop) (N a : Nat) (P : Nat -> Bool) (w : World) (e : Ending) (w' : World) : Prop := ∃ x : Ix, e = .returned x.v /\ MadeI S N a w w' x P /\ Below w.heap.size w w'
theorem OwnI.nil (w : World) (B f : Nat) : OwnI (w.alloc (.cells #[.int .i64 (f : Int), .slice none 0 0] 68)) B w.heap.size ⟨f, [], none, 0⟩ :=
 ⟨by simp [go_sem], by simp [go_sem], by simp [go_sem], by simp [go_sem], World.ownsRow_nil _ _ _ _, (fun m h => by cases h), (fun g h => by cases h)⟩
theorem OwnI.ix {w : World} {B p N : Nat} {x : Ix} (h : OwnI w B p x) (hf : x.f + x.ws.length <= N / 64 + 1) : IxAt (fun k => k < B) N w x := by
 refine ⟨?_, ?_, h.ok, hf⟩
 ·rcases h.row.2 with ⟨e, hn⟩ | ⟨g, cap, cur, e, hb, hg, hnc, hcm, hcs, htake⟩
  ·exact .inl (by rw [List.eq_nil_of_length_eq_zero hn]; rfl)
  ·injection e with e1 e2 e3;refine .inr ⟨g, 0, e1, Nat.not_lt.2 hb, fun j v hv => ?_⟩;have := World.ownsRow.cells h.row (g := g) (by rw [e1]; rfl) j v hv;rw [Addr.add_mid, Nat.zero_add] at this;rw [Nat.zero_add];exact this
 ·rcases h.row.2 with ⟨e, hn⟩ | ⟨g, cap, cur, e, hb, hg, hnc, hcm, hcs, htake⟩
  ·rw [hn]; exact Nat.zero_le _
  ·injection e with e1 e2 e3;rw [e3];exact hnc
theorem OwnI.stays {w w' : World} {B p : Nat} {x : Ix} (h : OwnI w B p x) {S : Nat -> Prop} (ht : Turned S w w') (hS : ∀ k, Tch p x k -> ¬ S k) : OwnI w' B p x := by
 have hpl : p < w.heap.size := World.block_lt_of_cell? w ⟨p, 0, none⟩ h.c0;have hp := hS p (.inl rfl);exact ⟨ht.cell h.c0 hp, ht.cell h.c1 hp, by rw [World.frozen?_of_block (ht.block p hpl hp)]; exact h.f0, by rw [World.frozen?_of_block (ht.block p hpl hp)]; exact h.f1, ownsRow_turned h.row ht fun k hk => hS k (.inr hk), h.ok, h.ne⟩
theorem tch_nil (p f : Nat) {k : Nat} (h : Tch p ⟨f, [], none, 0⟩ k) : k = p := by
 rcases h with h | h
 ·exact h
 ·cases h
theorem Turned.to_below {S : Nat -> Prop} {a b : World} (h : Turned S a b) {B : Nat} (hB : B <= a.heap.size) (hS : ∀ k, S k -> B <= k) : Below B a b :=
 ⟨h.os, h.tape, h.output, h.size, fun k hk => h.block k (Nat.lt_of_lt_of_le hk hB) fun hs => Nat.not_lt.2 (hS k hs) hk⟩
theorem only_post {w w1 w3 : World} {i N f L c' : Nat} {ws' : List Nat} {A' : Option Addr} (hi : i <= N) (hf : f = i / 64) (hs1 : w.heap.size + 1 <= w1.heap.size) (hO : OwnI w3 w1.heap.size w1.heap.size ⟨f, ws', A', c'⟩) (hm : ∀ j, memN f ws' j = (memN f [] j || decide (j = i))) (hlen : ws'.length = max ([] : List Nat).length (f - f + 1)) (hb : Below w.heap.size w w3) (hL : L = ws'.length) :
  ∃ x : Ix, Ending.returned (.agg #[.int .i64 (f : Int), .slice A' L c']) = .returned x.v /\ MadeI (fun k => k < w.heap.size) N i w ((w3.setCell ⟨w.heap.size, 0, none⟩ (.int .i64 (f : Int))).setCell ⟨w.heap.size, 1, none⟩ (.slice A' L c')) x (fun j => decide (j = i)) /\ Below w.heap.size w ((w3.setCell ⟨w.heap.size, 0, none⟩ (.int .i64 (f : Int))).setCell ⟨w.heap.size, 1, none⟩ (.slice A' L c')) := by
 subst hL;have ht := ((Turned.refl (fun k => k < w1.heap.size) w3).put' (k := w.heap.size) (by omega) 0 (.int .i64 (f : Int))).put' (k := w.heap.size) (by omega) 1 (.slice A' ws'.length c');have hx := (hO.ix (N := N) (by simp only [hlen, List.length_nil]; omega)).turned ht;refine ⟨⟨f, ws', A', c'⟩, rfl, ⟨hx.weaken fun k hk => by omega, fun j => ?_, .inr (by simp only [hf]; exact nlr _)⟩, (hb.setCell (nlr _) _).setCell (nlr _) _⟩;show memN f ws' j = _;rw [hm j]
 have : memN f [] j = false := by
  unfold memN wordN;split
  ·exact Nat.zero_testBit _
  ·exact Nat.zero_testBit _
 rw [this, Bool.false_or]
set_option maxRecDepth 100000 in
theorem only_is (i N : Nat) (hi : i <= N) (hN : N < 1000000000000) (w : World) : Calls Tryz.prog 30 #[.int .i64 (i : Int)] w (RetI (fun k => k < w.heap.size) N i (fun j => decide (j = i)) w) := by
 have HS := lh fun (W : World) => since_is i (by omega) W;have HA := lh fun (W : World) => add_is (OwnI.nil W W.heap.size (i / 64)) (by rw [World.size_alloc]; omega) i (nlr _) (by omega);have HI := lh (aI hi hN);unfold Ix.v at HS;simp only [List.length_nil] at HS;obtain ⟨f, hf⟩ : ∃ f, f = i / 64 := ⟨_, rfl⟩;have HF := lh hf;rw [<- hf] at HS HA;unfold RetI;clear hi hN hf;go_enter Tryz.func30, Tryz.ntmps30;go_wp2_with fail;go_at_call 52;refine (HS.out _).mono ?_;rintro e w1 ⟨rfl, hb1⟩;have hs1 := hb1.size;rw [World.size_alloc] at hs1;have HB1 := lh ((bW w _).trans (hb1.mono (by rw [World.size_alloc]; omega)));have ho1 := Below.obj hb1 (heap_alloc_new w (.cells #[.int .i64 0, .slice none 0 0] 68)) (by rw [World.size_alloc]; omega);have HO1 := lh ho1;have HAA := lh (HA.out w1);have HS1 := lh hs1;clear hb1 ho1 hs1;go_wp2_with fail;go_at_call 53;refine HAA.out.mono ?_;rintro e w3 ⟨rfl, ws', A', c', hO, hmem, hlen, hT, hk⟩;have ho3 := hT.obj (Below.obj (bW w1 (.cells #[.int .i64 (f : Int), .slice none 0 0] 68)) HO1.out (by have := HS1.out; omega)) (fun h => by have := tch_nil _ _ h; have := HS1.out; omega);have hb3 : Below w.heap.size w w3 := (HB1.out.alloc HB1.out.size _).trans (hT.to_below (by have := HS1.out; rw [World.size_alloc]; omega) (fun k h => by have := tch_nil _ _ h; have := HS1.out; omega));have c0 := hO.c0;have c1 := hO.c1;simp only at c0 c1;obtain ⟨L, hL⟩ : ∃ L, L = ws'.length := ⟨_, rfl⟩;rw [<- hL] at c1;have r0 := obc ho3 0;have r1 := obc ho3 1;have g0 : w3.frozen? ⟨w.heap.size, 0, none⟩ = false := (by simp [World.frozen?, ho3]);have g1 : w3.frozen? ⟨w.heap.size, 1, none⟩ = false := (by simp [World.frozen?, ho3]);simp at r0 r1;have HO := lh (aI hO (aI hmem (aI hlen (aI hb3 hL))));clear hO hmem hlen hT hk hb3 hL;go_wp2_with fail;have hlt : w.heap.size < w3.heap.size := lts ho3;refine bodyPost_ret (v := .agg #[.int .i64 (f : Int), .slice A' L c']) (by simp [results, Tryz.results30, go_sem, r0, r1]) rfl ?_;exact only_post HI.out.1 HF.out HS1.out HO.out.1 HO.out.2.1 HO.out.2.2.1 HO.out.2.2.2.1 HO.out.2.2.2.2
open Go.RowKit Go.Deep Go.Sort
def memTo (y : Ix) (k j : Nat) : Bool := y.mem j && decide (j / 64 < y.f + k)
theorem memTo_zero (y : Ix) (j : Nat) : memTo y 0 j = false := by
 unfold memTo Ix.mem memN wordN;by_cases h : j / 64 < y.f
 ·rw [if_pos h, Nat.zero_testBit, Bool.false_and]
 ·rw [dqf (by omega), Bool.and_false]
theorem memTo_all (y : Ix) (j : Nat) : memTo y y.ws.length j = y.mem j := by
 unfold memTo;by_cases h : j / 64 < y.f + y.ws.length
 ·rw [dqt h, Bool.and_true]
 ·rw [dqf h, Bool.and_false];unfold Ix.mem memN wordN;rw [if_neg (by omega), List.getD_eq_getElem?_getD, List.getElem?_eq_none (by omega)];exact (Nat.zero_testBit _).symm
theorem mem_or {f t k m : Nat} {ws : List Nat} {y : Ix} (hf : f <= y.f) (ht : t = y.f - f) (hk : t + k < ws.length) (hm : y.ws[k]? = some m) (j : Nat) : memN f (ws.set (t + k) (ws.getD (t + k) 0 ||| m)) j = (memN f ws j || (y.mem j && decide (j / 64 = y.f + k))) := by
 rw [mem_set hk];by_cases e : j / 64 = y.f + k
 ·rw [if_pos (by omega), Nat.testBit_or, dqt e, Bool.and_true];have e1 : memN f ws j = (ws.getD (t + k) 0).testBit (j % 64) := (by unfold memN wordN; rw [if_neg (by omega), show j / 64 - f = t + k by omega])
  have e2 : y.mem j = m.testBit (j % 64) := by
   unfold Ix.mem memN wordN;rw [if_neg (by omega), show j / 64 - y.f = k by omega, List.getD_eq_getElem?_getD, hm];rfl
  rw [e1, e2]
 ·rw [if_neg (by omega), dqf e, Bool.and_false, Bool.or_false]
theorem memTo_succ (y : Ix) (k j : Nat) : memTo y (k + 1) j = (memTo y k j || (y.mem j && decide (j / 64 = y.f + k))) := by
 unfold memTo;cases y.mem j with
 | false => rfl
 | true =>
  simp only [Bool.true_and];rw [Bool.eq_iff_iff, Bool.or_eq_true, decide_eq_true_eq, decide_eq_true_eq, decide_eq_true_eq];omega
structure AllAt (B p : Nat) (x y : Ix) (ws1 : List Nat) (A : Option Addr) (c : Nat) (w1 : World) (k : Nat) (wr : World) (ws : List Nat) : Prop where
 own : OwnI wr B p ⟨x.f, ws, A, c⟩
 len : ws.length = ws1.length
 mem : ∀ j, memN x.f ws j = (memN x.f ws1 j || memTo y k j)
 tur : Turned (Tch p ⟨x.f, ws1, A, c⟩) w1 wr
theorem AllAt.go {B p : Nat} {x y : Ix} {ws1 ws : List Nat} {A : Option Addr} {c k t m a g : Nat} {w1 wr : World} (h : AllAt B p x y ws1 A c w1 k wr ws) (hf : x.f <= y.f) (ht : t = y.f - x.f) (hk : t + k < ws1.length) (hm : y.ws[k]? = some m) (ha : ws.getD (t + k) 0 = a) (hA : A = some ⟨g, 0, none⟩) (h64 : a ||| m < 18446744073709551616) :
  AllAt B p x y ws1 A c w1 (k + 1) (wr.setCell ⟨g, t + k, none⟩ (.int .u64 ((a ||| m : Nat) : Int))) (ws.set (t + k) (a ||| m)) := by
 have hlen : (ws.set (t + k) (a ||| m)).length = ws.length := List.length_set ..;refine ⟨h.own.put (x := ⟨x.f, ws, A, c⟩) hA (t + k) _ h64, hlen.trans h.len, fun j => ?_, ?_⟩
 ·subst ha;rw [mem_or hf ht (by rw [h.len]; exact hk) hm j, h.mem j, memTo_succ, Bool.or_assoc]
 ·exact Turned.trans (T := fun q => q = g) h.tur ((Turned.refl (fun q => q = g) wr).put' rfl _ _) fun q _ hq => .inr (by unfold Ix.sl; rw [hA, hq]; rfl)
structure AllH (w : World) (B p N : Nat) (x y : Ix) : Prop where
 own : OwnI w B p x
 base : B <= w.heap.size
 oth : IxAt (Tch p x) N w y
 small : N < 1000000000000
 le : y.ws ≠ [] -> x.f <= y.f
theorem all_nums {a b n : Nat} (h : a <= b) (hb : b < 100000000000) (hn : n < 100000000000) : IntKind.i64.wrap ((b : Int) - (a : Int)) = ((b - a : Nat) : Int) /\ wrap64 (((b - a : Nat) : Int) + (n : Int)) = ((b - a + n : Nat) : Int) := by
 refine ⟨by rw [IntWalk.i64_in _ (by omega)]; omega, by rw [IntWalk.wrap64_in _ (by omega)]; omega⟩
theorem all_round {t k : Nat} (ht : t < 100000000000) (hk : k < 100000000000) : wrap64 ((t : Int) + (k : Int)) = ((t + k : Nat) : Int) /\ wrap64 ((k : Int) + 1) = ((k + 1 : Nat) : Int) := by
 refine ⟨by rw [IntWalk.wrap64_in _ (by omega)]; omega, by rw [IntWalk.wrap64_in _ (by omega)]; omega⟩
theorem all_meas {n k : Nat} (h : k < n) : n - ((k : Int) + 1).toNat < n - ((k : Int)).toNat := by omega
theorem all_post {w W1 wc w1 wr : World} {B p N n t r : Nat} {x y : Ix} {ws1 ws : List Nat} {A : Option Addr} {c : Nat} (hn : n = y.ws.length) (_hr : r = t + n) (_hH : AllH w B p N x y) (hbc : Below W1.heap.size W1 wc) (hb0 : Below w.heap.size w W1) (hT : Turned (Tch p x) wc w1)
  (hk : ∀ k, (Ix.sl ⟨x.f, ws1, A, c⟩).ownBlock = some k -> x.sl.ownBlock = some k \/ wc.heap.size <= k) (hws : ws1 = x.ws ++ List.replicate (r - x.ws.length) 0) (h : AllAt B p x y ws1 A c w1 n wr ws) :
  ∃ ws' A' c', OwnI wr B p ⟨x.f, ws', A', c'⟩ /\ (∀ j, memN x.f ws' j = (memN x.f x.ws j || y.mem j)) /\ ws'.length = max x.ws.length r /\ Turned (Tch p x) w wr /\ ∀ k, (Ix.sl ⟨x.f, ws', A', c'⟩).ownBlock = some k -> x.sl.ownBlock = some k \/ w.heap.size <= k := by
 have hbw : Below w.heap.size w wc := hb0.trans (hbc.mono hb0.size);have hsz := hbw.size;have hsl : Ix.sl ⟨x.f, ws, A, c⟩ = Ix.sl ⟨x.f, ws1, A, c⟩ := (by unfold Ix.sl; simp only [h.len]);refine ⟨ws, A, c, h.own, fun j => ?_, ?_, ?_, fun k hk2 => ?_⟩
 ·rw [h.mem j, hn, memTo_all, hws, mem_zeros]
 ·rw [h.len, hws]; simp; omega
 ·refine Turned.trans (T := fun k => Tch p x k \/ w.heap.size <= k) (Turned.of_below hbw) (Turned.trans (T := Tch p ⟨x.f, ws1, A, c⟩) ⟨hT.os, hT.tape, hT.output, hT.size, fun j hj hn => hT.block j hj fun h => hn (.inl h)⟩ h.tur fun k _ hk2 => ?_) fun k hkl hk2 => ?_
  ·rcases hk2 with h | h
   ·exact .inl (.inl h)
   ·rcases hk k h with h | h
    ·exact .inl (.inr h)
    ·exact .inr (Nat.le_trans hsz h)
  ·rcases hk2 with h | h
   ·exact h
   ·exact absurd hkl (Nat.not_lt.2 h)
 ·rw [hsl] at hk2;rcases hk k hk2 with h | h
  ·exact .inl h
  ·exact .inr (Nat.le_trans hsz h)
set_option maxRecDepth 100000 in
set_option maxHeartbeats 2000000 in
theorem all_is {w : World} {B p N : Nat} {x y : Ix} (h : AllH w B p N x y) : Calls Tryz.prog 79 #[.pointer (some ⟨p, 0, none⟩), y.v] w (AddC B p x y.mem (if y.ws = [] then 0 else y.f - x.f + y.ws.length) w) := by
 have HH := lh h;obtain ⟨n, hn⟩ : ∃ n, n = y.ws.length := ⟨_, rfl⟩;unfold Ix.v;rw [<- hn];by_cases h0 : n = 0
 ·have hy : y.ws = [] := List.eq_nil_of_length_eq_zero (hn.symm.trans h0)
  have HP := lh (show AddC B p x y.mem 0 w (.returned (.tuple #[])) (w.alloc (.cells #[.int .i64 (y.f : Int), .slice y.A n y.c] 68)) from by
   have ht : Turned (fun _ => False) w (w.alloc (.cells #[.int .i64 (y.f : Int), .slice y.A n y.c] 68)) := Turned.of_below (bW w _);refine ⟨rfl, x.ws, x.A, x.c, h.own.stays ht (fun _ _ h => h), fun j => ?_, by simp, Turned.of_below (bW w _), fun k hk => .inl hk⟩
   have : y.mem j = false := by
    unfold Ix.mem memN wordN;rw [hy];split
    ·exact Nat.zero_testBit _
    ·exact Nat.zero_testBit _
   rw [this, Bool.or_false])
  have z : ((n : Int) == 0) = true := (by rw [h0]; rfl);rw [if_pos hy];clear h hn h0 hy;go_enter Tryz.func79, Tryz.ntmps79;go_wp2_with fail;go_end0
  exact HP.out
 ·have hy : y.ws ≠ [] := fun e => h0 (by rw [hn, e]; rfl);have hle := h.le hy;have hfit := h.oth.fits;have hsm := h.small;obtain ⟨hw1, hw2⟩ := all_nums (a := x.f) (b := y.f) (n := n) hle (by omega) (by omega);obtain ⟨t, ht⟩ : ∃ t, t = y.f - x.f := ⟨_, rfl⟩;rw [<- ht] at hw1 hw2;rw [if_neg hy, <- ht];obtain ⟨r, hr⟩ : ∃ r, r = t + n := ⟨_, rfl⟩;rw [<- hr] at hw2 ⊢;have z : ((n : Int) == 0) = false := (by rw [beq_eq_false_iff_ne]; omega);have hpl : p < w.heap.size := World.block_lt_of_cell? w ⟨p, 0, none⟩ h.own.c0;have hb0 := bW w (.cells #[.int .i64 (y.f : Int), .slice y.A n y.c] 68);obtain ⟨W1, hW1⟩ : ∃ W1, W1 = w.alloc (.cells #[.int .i64 (y.f : Int), .slice y.A n y.c] 68) := ⟨_, rfl⟩;rw [<- hW1] at hb0;have hown1 : OwnI W1 B p x := h.own.stays (S := fun _ => False) (Turned.of_below hb0) fun _ _ h => h;have hy1 : IxAt (Tch p x) N W1 y := h.oth.stays hb0;have hob : W1.heap[w.heap.size]? = some (.cells #[.int .i64 (y.f : Int), .slice y.A n y.c] 68) := (by rw [hW1]; exact heap_alloc_new w _);have c0 := hown1.c0;have k0 := obc hob 0;have k1 := obc hob 1;simp at k0 k1;have HN := lh (aI hn (aI ht (aI hle (aI hr (aI (show r < 100000000000 by omega) hpl)))));have HW := lh (aI hown1 (aI hy1 (aI hob hb0)));have hlw : w.heap.size < W1.heap.size := lts hob;have HW12 := lh (aI hw1 hw2);have HGR := lh fun (W : World) (hO : OwnI W B p x) (hB : B <= W.heap.size) => grow_is hO hB r (by omega);clear h hn hy hle hfit hsm ht hr hpl hown1 hy1 hob hb0 h0 hw1 hw2;go_enter Tryz.func79, Tryz.ntmps79;go_upto_region 2 with fail;rw [<- hW1];clear hW1;go_cut [4] from 11 to 17 (fun v wx => v = .int .i64 (t : Int) /\ Below W1.heap.size W1 wx)
  case first =>
   have j0 := cell_regrown k0;have j1 := cell_regrown c0;have hw1 := HW12.out.1;refine wp_region_quiet_below (by kernel_rfl) (by kernel_rfl) ?_
   repeat (go_big_quiet_step (fail))
   refine wpQuiet_nil ?_;rintro w5 ⟨⟨dq, osq⟩, rfl⟩;have hb5 := below_regrown W1 dq osq;generalize grow (redrawn W1 dq) osq = w5 at hb5 ⊢;clear j0 j1 hw1;go_wp2_with fail;go_meet
   case rel => exact ⟨rfl, hb5⟩
  obtain ⟨rfl, hbc⟩ := hcut;have hown2 : OwnI wc B p x := HW.out.1.stays (S := fun _ => False) (Turned.of_below hbc) fun _ _ h => h;have hy2 : IxAt (Tch p x) N wc y := HW.out.2.1.stays hbc;have hob2 := Below.obj hbc HW.out.2.2.1 hlw;have k1' := obc hob2 1;simp at k1';have HG := lh (HGR.out wc hown2 (by have := HH.out.base; have := HW.out.2.2.2.size; have := hbc.size; omega));have HW2 := lh (aI hy2 (aI hob2 (aI hbc (show p < wc.heap.size /\ w.heap.size < wc.heap.size by have := HN.out.2.2.2.2.2; have := HW.out.2.2.2.size; have := hbc.size; omega))));clear hown2 hy2 hob2 hbc k0 k1 c0;have hw2 := HW12.out.2;go_wp2_with fail;go_at_call 83;clear hw2;refine HG.out.mono ?_;rintro e w1 ⟨rfl, A, c, hO, hT, hk⟩;obtain ⟨ws1, hws1⟩ : ∃ ws, ws = x.ws ++ List.replicate (r - x.ws.length) 0 := ⟨_, rfl⟩;rw [<- hws1] at hO hk;have hop : w.heap.size ≠ p := (by have := HN.out.2.2.2.2.2; omega)
  have hnt : ¬ Tch p x w.heap.size := fun h => by
   rcases h with h | h
   ·exact hop h
   ·have := (World.ownsRow.lt HH.out.own.row _ h).2;omega
  have hob3 := hT.obj HW2.out.2.1 hnt;have l1 := obc hob3 1;simp at l1;have hyT := HW2.out.1.turned hT
  have hy3 : IxAt (Tch p ⟨x.f, ws1, A, c⟩) N w1 y := by
   have hf := HW2.out.1.fresh (T := fun k => Tch p x k \/ wc.heap.size <= k) fun k hk => hk;refine (⟨hf.off.turned ?_, hf.cap, hf.ok, hf.fits⟩ : IxAt (fun k => Tch p x k \/ wc.heap.size <= k) N w1 y).weaken fun k hk2 => ?_
   ·exact ⟨hT.os, hT.tape, hT.output, hT.size, fun j hj hn => hT.block j hj fun h => hn (.inl h)⟩
   ·rcases hk2 with h | h
    ·exact .inl (.inl h)
    ·exact (hk k h).elim (fun h => .inl (.inr h)) .inr
  have hno3 : ¬ Tch p ⟨x.f, ws1, A, c⟩ w.heap.size := fun h => by
   rcases h with h | h
   ·exact hop h
   ·rcases hk _ h with h | h
    ·exact hnt (.inr h)
    ·have := HW2.out.2.2.2.2; omega
  have HL := lh (aI hO (aI hT (aI hk (aI hws1 (aI hob3 (aI hy3 hno3))))));clear hO hT hk hws1 hop hnt hob3 hyT hy3 hno3 k1';go_wp2_with fail;go_loopw [5, 6, 28] (fun _ _ kv wr => ∃ (k : Nat) (ws : List Nat), kv = .int .i64 (k : Int) /\ k <= n /\ Hid (AllAt B p x y ws1 A c w1 k wr ws)) (fun _ _ kv _ => n - (intOf kv).toNat)
  case atStart => exact ⟨0, ws1, rfl, Nat.zero_le _, lh ⟨HL.out.1, rfl, fun j => by rw [memTo_zero, Bool.or_false], Turned.refl _ _⟩⟩
  case round =>
   obtain ⟨k, ws, rfl, hkn, HA⟩ := hrel;by_cases hlt : k < n
   ·obtain ⟨m, hm⟩ : ∃ m, y.ws[k]? = some m := ⟨y.ws[k]'(by have := HN.out.1; omega), List.getElem?_eq_getElem _⟩;obtain ⟨gy, oy, eA, hgl, hcy⟩ := (HL.out.2.2.2.2.2.1.turned HA.out.tur).off.cell (wsV_at hm);have hob4 := HA.out.tur.obj HL.out.2.2.2.2.1 HL.out.2.2.2.2.2.2;have htk : t + k < ws1.length := (by rw [HL.out.2.2.2.1]; have := HN.out.2.2.2.1; simp; omega);have htk2 : t + k < ws.length := (by rw [HA.out.len]; exact htk);obtain ⟨a, ha⟩ : ∃ a, ws[t + k]? = some a := ⟨ws[t + k]'htk2, List.getElem?_eq_getElem _⟩;obtain ⟨g, hA, hbk, hc, hfz⟩ := HA.out.own.row_cell ha;have hm64 := HL.out.2.2.2.2.2.1.ok m (List.mem_of_getElem? hm);have ha64 := HA.out.own.ok a (List.mem_of_getElem? ha);have hor : bits .or .u64 (a : Int) (m : Int) = ((a ||| m : Nat) : Int) := bits_or_u64_nat a m ha64 hm64;have ham : a ||| m < 18446744073709551616 := Nat.or_lt_two_pow (n := 64) ha64 hm64;have hgd : ws.getD (t + k) 0 = a := (by rw [List.getD_eq_getElem?_getD, ha]; rfl);have HGO := lh (HA.out.go HN.out.2.2.1 HN.out.2.1 htk hm hgd hA ham);have d1 := HA.out.own.c1;simp only at d1 hc hfz hA;rw [hA] at d1;have m1 := obc hob4 1;simp at m1;rw [eA] at m1;obtain ⟨am, ham2⟩ : ∃ am, am = a ||| m := ⟨_, rfl⟩;rw [<- ham2] at hor HGO;obtain ⟨tk, htk3⟩ : ∃ q, q = t + k := ⟨_, rfl⟩;rw [<- htk3] at HGO hc hfz;obtain ⟨L, hL⟩ : ∃ L, L = ws.length := ⟨_, rfl⟩;rw [<- hL] at d1;have htI : (tk : Int) < (L : Int) := (by omega);have ht0 : (0 : Int) <= (tk : Int) := Int.natCast_nonneg _;have hkI : (k : Int) < (n : Int) := (by omega);have hr11 : t + n < 100000000000 := (by have h1 := HN.out.2.2.2.1; have h2 := HN.out.2.2.2.2.1; omega);have hkb : k < 100000000000 := (by omega);have htb : t < 100000000000 := (by omega);have htkb : tk < 100000000000 := (by omega);have HRD := lh (all_round htb hkb);have hw3 : wrap64 ((t : Int) + (k : Int)) = (tk : Int) := HRD.out.1.trans (by rw [htk3]);have hw4 := HRD.out.2;clear hr11 htb;have hk0 : (0 : Int) <= (k : Int) := Int.natCast_nonneg _;clear hm hgl hob4 htk htk2 ha hbk hm64 ha64 ham hgd hA ham2 htk3 hL hkn;go_wp2_with fail;go_roundw
    case rel => exact ⟨k + 1, _, by go_num, hlt, HGO⟩
    case measure => simp only [intOf]; exact all_meas hlt
   ·have he : k = n := (by omega);subst he;have hkI : ¬ (k : Int) < (k : Int) := Int.lt_irrefl _;clear hlt hkn;go_wp2_with fail;go_end0
    exact ⟨rfl, all_post HN.out.1 HN.out.2.2.2.1 HH.out HW2.out.2.2.1 HW.out.2.2.2 HL.out.2.1 HL.out.2.2.1 HL.out.2.2.2.1 HA.out⟩
open Go.RowKit Go.Deep Go.Sort
theorem old_obj' {w : World} {k : Nat} {o : Obj} (h : w.heap[k]? = some o) (o' : Obj) : (w.alloc o').heap[k]? = some o := ((bW w o').block k (lts h)).trans h
theorem two_cells {w : World} {k : Nat} {u v : Value} {T : TypeId} (h : w.heap[k]? = some (.cells #[u, v] T)) : w.cell? ⟨k, 0, none⟩ = some u /\ w.cell? ⟨k, 1, none⟩ = some v := ⟨obc h 0, obc h 1⟩
theorem mem_nil (x : Ix) (h : x.ws = []) (j : Nat) : x.mem j = false := by
 unfold Ix.mem memN wordN;rw [h];split
 ·exact Nat.zero_testBit _
 ·exact Nat.zero_testBit _
theorem both_post {S : Nat -> Prop} {N l f p h0 : Nat} {w W w3 : World} {a b : Ix} {ws1 ws2 : List Nat} {A2 : Option Addr} {c2 : Nat} (hS : ∀ k, S k -> k < w.heap.size) (hfa : f <= a.f) (hfb : f <= b.f) (hf : f = a.f \/ f = b.f) (ha : IxAt S N w a) (hb : IxAt S N w b) (hla : a.low l) (hlb : b.low l) (ha0 : a.ws ≠ []) (hb0 : b.ws ≠ [])
  (hp : w.heap.size <= p) (_hW : Below w.heap.size w W) (hO : OwnI w3 p p ⟨f, ws2, A2, c2⟩) (hm1 : ∀ j, memN f ws1 j = (memN f [] j || a.mem j)) (hm2 : ∀ j, memN f ws2 j = (memN f ws1 j || b.mem j)) (hl1 : ws1.length = max ([] : List Nat).length (a.f - f + a.ws.length)) (hl2 : ws2.length = max ws1.length (b.f - f + b.ws.length)) (hbw : Below w.heap.size w w3) (hh : h0 < p) (hh0 : w.heap.size <= h0) (L : Nat) (hL : L = ws2.length) :
  RetI S N l (fun j => a.mem j || b.mem j) w (.returned (.agg #[.int .i64 (f : Int), .slice A2 L c2])) ((w3.setCell ⟨h0, 0, none⟩ (.int .i64 (f : Int))).setCell ⟨h0, 1, none⟩ (.slice A2 L c2)) := by
 subst hL;have ht := ((Turned.refl (fun k => k < p) w3).put' (k := h0) hh 0 (.int .i64 (f : Int))).put' (k := h0) hh 1 (.slice A2 ws2.length c2);have h1 := ha.fits;have h2 := hb.fits;simp only [List.length_nil] at hl1;have hx := (hO.ix (N := N) (by simp only [hl2, hl1]; omega)).turned ht;refine ⟨⟨f, ws2, A2, c2⟩, rfl, ⟨hx.weaken fun k hk => Nat.lt_of_lt_of_le (hS k hk) hp, fun j => ?_, .inr ?_⟩, (hbw.setCell hh0 _).setCell hh0 _⟩
 ·show memN f ws2 j = _;rw [hm2 j, hm1 j];have : memN f [] j = false := mem_nil ⟨f, [], none, 0⟩ rfl j;rw [this, Bool.false_or]
 ·show l / 64 <= f;rcases hf with h | h
  ·rw [h]; exact hla.resolve_left ha0
  ·rw [h]; exact hlb.resolve_left hb0
theorem all_some {w : World} {B p N : Nat} {x y : Ix} (h : AllH w B p N x y) (hy : y.ws ≠ []) : Calls Tryz.prog 79 #[.pointer (some ⟨p, 0, none⟩), y.v] w (AddC B p x y.mem (y.f - x.f + y.ws.length) w) := by
 have := all_is h
 rwa [if_neg hy] at this
theorem two_below (w : World) (o1 o2 o3 : Obj) : Below w.heap.size w (((w.alloc o1).alloc o2).alloc o3) := (((Below.refl _ w).alloc (nlr _) _).alloc (by simp) _).alloc (by simp; omega) _
theorem nil_tch {w : World} {S : Nat -> Prop} {N p f : Nat} {y : Ix} (h : IxAt S N w y) (hp : w.heap.size <= p) : IxAt (Tch p ⟨f, [], none, 0⟩) N w y := h.fresh fun k hk => .inr (by have := tch_nil _ _ hk; omega)
set_option maxRecDepth 100000 in
set_option maxHeartbeats 2000000 in
theorem join_ix {S : Nat -> Prop} {N l : Nat} {w : World} {a b : Ix} (hS : ∀ k, S k -> k < w.heap.size) (hN : N < 1000000000000) (ha : IxAt S N w a) (hb : IxAt S N w b) (hla : a.low l) (hlb : b.low l) : Calls Tryz.prog 49 #[a.v, b.v] w (RetI S N l (fun j => a.mem j || b.mem j) w) := by
 have HH := lh (aI hS (aI hN (aI ha (aI hb (aI hla hlb)))));obtain ⟨na, hna⟩ : ∃ n, n = a.ws.length := ⟨_, rfl⟩;obtain ⟨nb, hnb⟩ : ∃ n, n = b.ws.length := ⟨_, rfl⟩;have hva : a.v = .agg #[.int .i64 (a.f : Int), .slice a.A na a.c] := (by unfold Ix.v; rw [hna]);have hvb : b.v = .agg #[.int .i64 (b.f : Int), .slice b.A nb b.c] := (by unfold Ix.v; rw [hnb]);rw [hva, hvb];by_cases h0 : na = 0
 ·have ha0 : a.ws = [] := List.eq_nil_of_length_eq_zero (hna.symm.trans h0)
  have HP := lh (show RetI S N l (fun j => a.mem j || b.mem j) w (.returned (.agg #[.int .i64 (b.f : Int), .slice b.A nb b.c])) (((w.alloc (.cells #[.int .i64 (a.f : Int), .slice a.A na a.c] 68)).alloc (.cells #[.int .i64 (b.f : Int), .slice b.A nb b.c] 68)).alloc (.cells #[.int .i64 (b.f : Int), .slice b.A nb b.c] 68)) from by
   have hbb := two_below w (.cells #[.int .i64 (a.f : Int), .slice a.A na a.c] 68) (.cells #[.int .i64 (b.f : Int), .slice b.A nb b.c] 68) (.cells #[.int .i64 (b.f : Int), .slice b.A nb b.c] 68)
   exact ⟨b, by rw [hvb], ⟨hb.stays hbb, fun j => by rw [mem_nil a ha0, Bool.false_or], hlb⟩, hbb⟩)
  have z : ((na : Int) == 0) = true := (by rw [h0]; rfl);clear hS hN ha hb hla hlb hna hnb h0 ha0 hva hvb;unfold RetI at HP ⊢;go_enter Tryz.func49, Tryz.ntmps49;go_wp2_with fail;refine bodyPost_ret (v := .agg #[.int .i64 (b.f : Int), .slice b.A nb b.c]) (by simp [results, Tryz.results49, go_sem]) rfl HP.out
 ·have ha0 : a.ws ≠ [] := fun e => h0 (by rw [hna, e]; rfl);have z : ((na : Int) == 0) = false := (by rw [beq_eq_false_iff_ne]; omega);by_cases h1 : nb = 0
  ·have hb0 : b.ws = [] := List.eq_nil_of_length_eq_zero (hnb.symm.trans h1)
   have HP := lh (show RetI S N l (fun j => a.mem j || b.mem j) w (.returned (.agg #[.int .i64 (a.f : Int), .slice a.A na a.c])) (((w.alloc (.cells #[.int .i64 (a.f : Int), .slice a.A na a.c] 68)).alloc (.cells #[.int .i64 (b.f : Int), .slice b.A nb b.c] 68)).alloc (.cells #[.int .i64 (a.f : Int), .slice a.A na a.c] 68)) from by
    have hbb := two_below w (.cells #[.int .i64 (a.f : Int), .slice a.A na a.c] 68) (.cells #[.int .i64 (b.f : Int), .slice b.A nb b.c] 68) (.cells #[.int .i64 (a.f : Int), .slice a.A na a.c] 68)
    exact ⟨a, by rw [hva], ⟨ha.stays hbb, fun j => by rw [mem_nil b hb0, Bool.or_false], hla⟩, hbb⟩)
   have z1 : ((nb : Int) == 0) = true := (by rw [h1]; rfl);clear hS hN ha hb hla hlb hna hnb h0 h1 ha0 hb0 hva hvb;unfold RetI at HP ⊢;go_enter Tryz.func49, Tryz.ntmps49;go_wp2_with fail;refine bodyPost_ret (v := .agg #[.int .i64 (a.f : Int), .slice a.A na a.c]) (by simp [results, Tryz.results49, go_sem]) rfl HP.out
  ·have hb0 : b.ws ≠ [] := fun e => h1 (by rw [hnb, e]; rfl);have z1 : ((nb : Int) == 0) = false := (by rw [beq_eq_false_iff_ne]; omega);obtain ⟨W3, hW3⟩ : ∃ W, W = ((w.alloc (.cells #[.int .i64 (a.f : Int), .slice a.A na a.c] 68)).alloc (.cells #[.int .i64 (b.f : Int), .slice b.A nb b.c] 68)).alloc (.cells #[.int .i64 0, .slice none 0 0] 68) := ⟨_, rfl⟩;have hb3 : Below w.heap.size w W3 := (by rw [hW3]; exact two_below _ _ _ _);have hs3 : W3.heap.size = w.heap.size + 3 := (by rw [hW3]; simp);have oa : W3.heap[w.heap.size]? = some (.cells #[.int .i64 (a.f : Int), .slice a.A na a.c] 68) := (by rw [hW3]; exact old_obj' (old_obj' (heap_alloc_new w _) _) _);have ob : W3.heap[w.heap.size + 1]? = some (.cells #[.int .i64 (b.f : Int), .slice b.A nb b.c] 68) := (by rw [hW3]; exact old_obj' (by have := heap_alloc_new (w.alloc (.cells #[.int .i64 (a.f : Int), .slice a.A na a.c] 68)) (.cells #[.int .i64 (b.f : Int), .slice b.A nb b.c] 68); rwa [World.size_alloc] at this) _);have oz : W3.heap[w.heap.size + 2]? = some (.cells #[.int .i64 0, .slice none 0 0] 68) := (by rw [hW3]; have := heap_alloc_new ((w.alloc (.cells #[.int .i64 (a.f : Int), .slice a.A na a.c] 68)).alloc (.cells #[.int .i64 (b.f : Int), .slice b.A nb b.c] 68)) (.cells #[.int .i64 0, .slice none 0 0] 68); rwa [World.size_alloc, World.size_alloc] at this);have HW := lh (aI hb3 (aI hs3 (aI oa (aI ob oz))));have HAB := lh (aI ha0 (aI hb0 (aI hva hvb)))
   have HA1 := lh (show ∀ f : Nat, f <= a.f -> Calls Tryz.prog 79 #[.pointer (some ⟨W3.heap.size, 0, none⟩), .agg #[.int .i64 (a.f : Int), .slice a.A na a.c]] (W3.alloc (.cells #[.int .i64 (f : Int), .slice none 0 0] 68)) (AddC W3.heap.size W3.heap.size ⟨f, [], none, 0⟩ a.mem (a.f - f + a.ws.length) (W3.alloc (.cells #[.int .i64 (f : Int), .slice none 0 0] 68))) from fun f hf => by
    rw [<- hva]
    exact all_some (x := ⟨f, [], none, 0⟩) ⟨OwnI.nil W3 W3.heap.size f, by rw [World.size_alloc]; omega, (nil_tch (ha.stays hb3) (nlr _)).stays (bW W3 _), hN, fun _ => hf⟩ ha0)
   clear hS hN ha hb hla hlb hna hnb h0 h1 ha0 hb0 hva hvb hb3 oa ob oz;by_cases hc : a.f <= b.f
   ·have hcI : (a.f : Int) <= (b.f : Int) := (by omega);have HFF := lh (show a.f <= a.f /\ a.f <= b.f /\ (a.f = a.f \/ a.f = b.f) from ⟨nlr _, hc, .inl rfl⟩);have HA2 := lh (HA1.out a.f HFF.out.1);clear hc;go_enter Tryz.func49, Tryz.ntmps49;go_upto_region 5 with fail;rw [<- hW3];obtain ⟨oa0, oa1⟩ := two_cells HW.out.2.2.1;obtain ⟨ob0, ob1⟩ := two_cells HW.out.2.2.2.1;have ls0 : w.heap.size < W3.heap.size := (by rw [hs3]; omega);have ls1 : w.heap.size + 1 < W3.heap.size := (by rw [hs3]; omega);clear hW3 hs3;go_wp2_with fail;clear hcI;go_at_call 79;refine HA2.out.mono ?_;rintro e w4 ⟨rfl, ws1, A1, c1, hO1, hm1, hl1, hT1, hk1⟩
    have hk1' : ∀ k, (Ix.sl ⟨a.f, ws1, A1, c1⟩).ownBlock = some k -> W3.heap.size < k := fun k hk => by
     rcases hk1 k hk with h | h
     ·cases h
     ·rw [World.size_alloc] at h; omega
    have htp : ∀ k, Tch W3.heap.size ⟨a.f, [], none, 0⟩ k -> W3.heap.size <= k := fun k hk => by have := tch_nil _ _ hk; omega
    have hT1' : Turned (fun k => W3.heap.size <= k) (W3.alloc (.cells #[.int .i64 (a.f : Int), .slice none 0 0] 68)) w4 := ⟨hT1.os, hT1.tape, hT1.output, hT1.size, fun j hj hn => hT1.block j hj fun h => hn (htp j h)⟩;have hs4 := hT1.size;rw [World.size_alloc] at hs4;have hsz := HW.out.2.1;have ob4 := hT1'.obj (old_obj' HW.out.2.2.2.1 (.cells #[.int .i64 (a.f : Int), .slice none 0 0] 68)) (by omega);have oz4 := hT1'.obj (old_obj' HW.out.2.2.2.2 (.cells #[.int .i64 (a.f : Int), .slice none 0 0] 68)) (by omega)
    have hb4 : IxAt (Tch W3.heap.size ⟨a.f, ws1, A1, c1⟩) N w4 b := by
     have h1 := ((HH.out.2.2.2.1.stays HW.out.1).fresh (T := fun k => W3.heap.size <= k) fun k hk => .inr hk).stays (bW W3 (.cells #[.int .i64 (a.f : Int), .slice none 0 0] 68));refine (h1.turned hT1').weaken fun k hk => ?_;rcases hk with h | h
     ·exact Nat.le_of_eq h.symm
     ·exact Nat.le_of_lt (hk1' k h)
    have HA3 := lh (all_some (x := ⟨a.f, ws1, A1, c1⟩) ⟨hO1, by omega, hb4, HH.out.2.1, fun _ => HFF.out.2.1⟩ HAB.out.2.1);rw [HAB.out.2.2.2] at HA3;obtain ⟨b0', b1'⟩ := two_cells ob4;have ls2 : w.heap.size + 1 < w4.heap.size := (by omega);have HZ := lh (aI oz4 (aI hk1' (aI hT1' (aI hm1 (aI hl1 (aI hs4 hsz))))));clear hO1 hm1 hl1 hT1 hk1 hk1' htp hT1' hs4 hsz ob4 oz4 hb4 oa0 oa1 ob0 ob1 ls0 ls1;go_wp2_with fail;go_at_call 79;refine HA3.out.mono ?_;rintro e w5 ⟨rfl, ws2, A2, c2, hO2, hm2, hl2, hT2, hk2⟩
    have hT2' : Turned (fun k => W3.heap.size <= k) w4 w5 := ⟨hT2.os, hT2.tape, hT2.output, hT2.size, fun j hj hn => hT2.block j hj fun h => hn (by
     rcases h with h | h
     ·exact Nat.le_of_eq h.symm
     ·exact Nat.le_of_lt (HZ.out.2.1 j h))⟩
    have hsz := HZ.out.2.2.2.2.2.2;have oz5 := hT2'.obj HZ.out.1 (by omega)
    have hb5 : Below w.heap.size w w5 := by
     have h1 := (HW.out.1.alloc HW.out.1.size (.cells #[.int .i64 (a.f : Int), .slice none 0 0] 68));have h2 := HZ.out.2.2.1.to_below (B := w.heap.size) (by rw [World.size_alloc]; omega) (fun k hk => by omega);have h3 := hT2'.to_below (B := w.heap.size) (by have := HZ.out.2.2.2.2.2.1; omega) (fun k hk => by omega);exact (h1.trans h2).trans h3
    have c0 := hO2.c0;have c1' := hO2.c1;simp only at c0 c1';obtain ⟨L, hL⟩ : ∃ L, L = ws2.length := ⟨_, rfl⟩;rw [<- hL] at c1';obtain ⟨r0, r1⟩ := two_cells oz5;have g0 : w5.frozen? ⟨w.heap.size + 2, 0, none⟩ = false := (by simp [World.frozen?, oz5]);have g1 : w5.frozen? ⟨w.heap.size + 2, 1, none⟩ = false := (by simp [World.frozen?, oz5]);have hlt : w.heap.size + 2 < w5.heap.size := lts oz5;have HP := lh (both_post (h0 := w.heap.size + 2) (p := W3.heap.size) HH.out.1 (nlr _) HFF.out.2.1 (.inl rfl) HH.out.2.2.1 HH.out.2.2.2.1 HH.out.2.2.2.2.1 HH.out.2.2.2.2.2 HAB.out.1 HAB.out.2.1 (by omega) HW.out.1 hO2 HZ.out.2.2.2.1 hm2 HZ.out.2.2.2.2.1 hl2 hb5 (by omega) (by omega) L hL);clear hO2 hm2 hl2 hT2 hk2 hT2' hb5 hL oz5 b0' b1' hsz;go_wp2_with fail;refine bodyPost_ret (v := .agg #[.int .i64 (a.f : Int), .slice A2 L c2]) (by simp [results, Tryz.results49, go_sem, r0, r1]) rfl ?_;exact HP.out
   ·have hcI : (b.f : Int) < (a.f : Int) := (by omega);have HFF := lh (show b.f <= a.f /\ b.f <= b.f /\ (b.f = a.f \/ b.f = b.f) from ⟨by omega, nlr _, .inr rfl⟩);have HA2 := lh (HA1.out b.f HFF.out.1);clear hc;go_enter Tryz.func49, Tryz.ntmps49;go_upto_region 5 with fail;rw [<- hW3];obtain ⟨oa0, oa1⟩ := two_cells HW.out.2.2.1;obtain ⟨ob0, ob1⟩ := two_cells HW.out.2.2.2.1;have ls0 : w.heap.size < W3.heap.size := (by rw [hs3]; omega);have ls1 : w.heap.size + 1 < W3.heap.size := (by rw [hs3]; omega);clear hW3 hs3;go_wp2_with fail;clear hcI;go_at_call 79;refine HA2.out.mono ?_;rintro e w4 ⟨rfl, ws1, A1, c1, hO1, hm1, hl1, hT1, hk1⟩
    have hk1' : ∀ k, (Ix.sl ⟨b.f, ws1, A1, c1⟩).ownBlock = some k -> W3.heap.size < k := fun k hk => by
     rcases hk1 k hk with h | h
     ·cases h
     ·rw [World.size_alloc] at h; omega
    have htp : ∀ k, Tch W3.heap.size ⟨b.f, [], none, 0⟩ k -> W3.heap.size <= k := fun k hk => by have := tch_nil _ _ hk; omega
    have hT1' : Turned (fun k => W3.heap.size <= k) (W3.alloc (.cells #[.int .i64 (b.f : Int), .slice none 0 0] 68)) w4 := ⟨hT1.os, hT1.tape, hT1.output, hT1.size, fun j hj hn => hT1.block j hj fun h => hn (htp j h)⟩;have hs4 := hT1.size;rw [World.size_alloc] at hs4;have hsz := HW.out.2.1;have ob4 := hT1'.obj (old_obj' HW.out.2.2.2.1 (.cells #[.int .i64 (b.f : Int), .slice none 0 0] 68)) (by omega);have oz4 := hT1'.obj (old_obj' HW.out.2.2.2.2 (.cells #[.int .i64 (b.f : Int), .slice none 0 0] 68)) (by omega)
    have hb4 : IxAt (Tch W3.heap.size ⟨b.f, ws1, A1, c1⟩) N w4 b := by
     have h1 := ((HH.out.2.2.2.1.stays HW.out.1).fresh (T := fun k => W3.heap.size <= k) fun k hk => .inr hk).stays (bW W3 (.cells #[.int .i64 (b.f : Int), .slice none 0 0] 68));refine (h1.turned hT1').weaken fun k hk => ?_;rcases hk with h | h
     ·exact Nat.le_of_eq h.symm
     ·exact Nat.le_of_lt (hk1' k h)
    have HA3 := lh (all_some (x := ⟨b.f, ws1, A1, c1⟩) ⟨hO1, by omega, hb4, HH.out.2.1, fun _ => nlr _⟩ HAB.out.2.1);rw [HAB.out.2.2.2] at HA3;obtain ⟨b0', b1'⟩ := two_cells ob4;have ls2 : w.heap.size + 1 < w4.heap.size := (by omega);have HZ := lh (aI oz4 (aI hk1' (aI hT1' (aI hm1 (aI hl1 (aI hs4 hsz))))));clear hO1 hm1 hl1 hT1 hk1 hk1' htp hT1' hs4 hsz ob4 oz4 hb4 oa0 oa1 ob0 ob1 ls0 ls1;go_wp2_with fail;go_at_call 79;refine HA3.out.mono ?_;rintro e w5 ⟨rfl, ws2, A2, c2, hO2, hm2, hl2, hT2, hk2⟩
    have hT2' : Turned (fun k => W3.heap.size <= k) w4 w5 := ⟨hT2.os, hT2.tape, hT2.output, hT2.size, fun j hj hn => hT2.block j hj fun h => hn (by
     rcases h with h | h
     ·exact Nat.le_of_eq h.symm
     ·exact Nat.le_of_lt (HZ.out.2.1 j h))⟩
    have hsz := HZ.out.2.2.2.2.2.2;have oz5 := hT2'.obj HZ.out.1 (by omega)
    have hb5 : Below w.heap.size w w5 := by
     have h1 := (HW.out.1.alloc HW.out.1.size (.cells #[.int .i64 (b.f : Int), .slice none 0 0] 68));have h2 := HZ.out.2.2.1.to_below (B := w.heap.size) (by rw [World.size_alloc]; omega) (fun k hk => by omega);have h3 := hT2'.to_below (B := w.heap.size) (by have := HZ.out.2.2.2.2.2.1; omega) (fun k hk => by omega);exact (h1.trans h2).trans h3
    have c0 := hO2.c0;have c1' := hO2.c1;simp only at c0 c1';obtain ⟨L, hL⟩ : ∃ L, L = ws2.length := ⟨_, rfl⟩;rw [<- hL] at c1';obtain ⟨r0, r1⟩ := two_cells oz5;have g0 : w5.frozen? ⟨w.heap.size + 2, 0, none⟩ = false := (by simp [World.frozen?, oz5]);have g1 : w5.frozen? ⟨w.heap.size + 2, 1, none⟩ = false := (by simp [World.frozen?, oz5]);have hlt : w.heap.size + 2 < w5.heap.size := lts oz5;have HP := lh (both_post (h0 := w.heap.size + 2) (p := W3.heap.size) HH.out.1 HFF.out.1 (nlr _) (.inr rfl) HH.out.2.2.1 HH.out.2.2.2.1 HH.out.2.2.2.2.1 HH.out.2.2.2.2.2 HAB.out.1 HAB.out.2.1 (by omega) HW.out.1 hO2 HZ.out.2.2.2.1 hm2 HZ.out.2.2.2.2.1 hl2 hb5 (by omega) (by omega) L hL);clear hO2 hm2 hl2 hT2 hk2 hT2' hb5 hL oz5 b0' b1' hsz;go_wp2_with fail;refine bodyPost_ret (v := .agg #[.int .i64 (b.f : Int), .slice A2 L c2]) (by simp [results, Tryz.results49, go_sem, r0, r1]) rfl ?_;exact HP.out
open Go.RowKit Go.Deep Go.Sort
structure BetAt (p f a i : Nat) (W wr : World) (ws : List Nat) (A : Option Addr) (c : Nat) : Prop where
 own : OwnI wr p p ⟨f, ws, A, c⟩
 mem : ∀ j, memN f ws j = (decide (a <= j) && decide (j < i))
 len : ws = [] \/ f + ws.length <= (i - 1) / 64 + 1
 tur : Turned (fun k => p <= k) W wr
 blk : ∀ k, (Ix.sl ⟨f, ws, A, c⟩).ownBlock = some k -> p < k
theorem BetAt.go {p f a i : Nat} {W wr w' : World} {ws ws' : List Nat} {A A' : Option Addr} {c c' : Nat} (h : BetAt p f a i W wr ws A c) (hf : f = a / 64) (hai : a <= i) (hO : OwnI w' p p ⟨f, ws', A', c'⟩) (hm : ∀ j, memN f ws' j = (memN f ws j || decide (j = i))) (hl : ws'.length = max ws.length (i / 64 - f + 1)) (hT : Turned (Tch p ⟨f, ws, A, c⟩) wr w') (hps : p < wr.heap.size)
  (hk : ∀ k, (Ix.sl ⟨f, ws', A', c'⟩).ownBlock = some k -> (Ix.sl ⟨f, ws, A, c⟩).ownBlock = some k \/ wr.heap.size <= k) : BetAt p f a (i + 1) W w' ws' A' c' := by
 have hif : f <= i / 64 := (by rw [hf]; exact Nat.div_le_div_right hai);refine ⟨hO, fun j => ?_, .inr ?_, ?_, fun k hk2 => ?_⟩
 ·rw [hm j, h.mem j, Bool.eq_iff_iff];simp only [Bool.or_eq_true, Bool.and_eq_true, decide_eq_true_eq];omega
 ·rw [hl];simp only [Nat.add_sub_cancel];rcases h.len with h1 | h1
  ·rw [h1]; simp; omega
  ·omega
 ·refine Turned.trans (T := fun k => p <= k) h.tur ⟨hT.os, hT.tape, hT.output, hT.size, fun j hj hn => hT.block j hj fun h2 => hn ?_⟩ fun k _ hk => hk;rcases h2 with h2 | h2
  ·exact Nat.le_of_eq h2.symm
  ·exact Nat.le_of_lt (h.blk j h2)
 ·rcases hk k hk2 with h1 | h1
  ·exact h.blk k h1
  ·exact Nat.lt_of_lt_of_le hps h1
theorem bet_post {w W w3 : World} {N a b p f L c : Nat} {ws : List Nat} {A : Option Addr} (hab : a < b) (hb : b <= N + 1) (hf : f = a / 64) (hp : w.heap.size + 1 <= p) (hW : Below w.heap.size w W) (hpW : p <= W.heap.size) (h : BetAt p f a b W w3 ws A c) (hL : L = ws.length) :
  RetI (fun k => k < w.heap.size) N a (fun j => decide (a <= j) && decide (j < b)) w (.returned (.agg #[.int .i64 (f : Int), .slice A L c])) ((w3.setCell ⟨w.heap.size, 0, none⟩ (.int .i64 (f : Int))).setCell ⟨w.heap.size, 1, none⟩ (.slice A L c)) := by
 subst hL;have hbw : Below w.heap.size w w3 := hW.trans (h.tur.to_below (by omega) (fun k hk => by omega));have ht := ((Turned.refl (fun k => k < p) w3).put' (k := w.heap.size) (by omega) 0 (.int .i64 (f : Int))).put' (k := w.heap.size) (by omega) 1 (.slice A ws.length c)
 have hx := (h.own.ix (N := N) (by
  simp only;rcases h.len with h1 | h1
  ·rw [h1]; simp; omega
  ·omega)).turned ht
 exact ⟨⟨f, ws, A, c⟩, rfl, ⟨hx.weaken fun k hk => by omega, fun j => h.mem j, .inr (by simp only [hf]; exact nlr _)⟩, (hbw.setCell (nlr _) _).setCell (nlr _) _⟩
theorem bet_meas {b i : Nat} (h : i < b) : b - ((i : Int) + 1).toNat < b - ((i : Int)).toNat := by omega
set_option maxRecDepth 100000 in
set_option maxHeartbeats 1000000 in
theorem between_is (a b N : Nat) (hab : a < b) (hb : b <= N + 1) (hN : N < 1000000000000) (w : World) : Calls Tryz.prog 77 #[.int .i64 (a : Int), .int .i64 (b : Int)] w (RetI (fun k => k < w.heap.size) N a (fun j => decide (a <= j) && decide (j < b)) w) := by
 have HS := lh fun (W : World) => since_is a (by omega) W;have HI := lh (aI hab (aI hb hN));unfold Ix.v at HS;simp only [List.length_nil] at HS;obtain ⟨f, hf⟩ : ∃ f, f = a / 64 := ⟨_, rfl⟩;have HF := lh hf;rw [<- hf] at HS;clear hab hb hN hf;go_enter Tryz.func77, Tryz.ntmps77;go_wp2_with fail;go_at_call 52;refine (HS.out _).mono ?_;rintro e w1 ⟨rfl, hb1⟩;have hs1 := hb1.size;rw [World.size_alloc] at hs1;have ho1 := Below.obj hb1 (heap_alloc_new w (.cells #[.int .i64 0, .slice none 0 0] 68)) (by rw [World.size_alloc]; omega);obtain ⟨W2, hW2⟩ : ∃ W2, W2 = w1.alloc (.cells #[.int .i64 (f : Int), .slice none 0 0] 68) := ⟨_, rfl⟩
 have HW := lh (show Below w.heap.size w W2 /\ w.heap.size + 1 <= w1.heap.size /\ w1.heap.size + 1 = W2.heap.size /\ W2.heap[w.heap.size]? = some (.cells #[.int .i64 0, .slice none 0 0] 68) from by
  have hb2 : Below w.heap.size w w1 := (bW w _).trans (hb1.mono (by rw [World.size_alloc]; omega));rw [hW2]
  exact ⟨hb2.alloc hb2.size _, by omega, by rw [World.size_alloc], old_obj' ho1 _⟩)
 have HB0 := lh (show BetAt w1.heap.size f a a W2 W2 [] none 0 from by
  rw [hW2];refine ⟨OwnI.nil w1 w1.heap.size f, fun j => ?_, .inl rfl, Turned.refl _ _, (fun k h => by cases h)⟩;have : memN f [] j = false := mem_nil ⟨f, [], none, 0⟩ rfl j;rw [this];by_cases h : a <= j
  ·rw [dqf (show ¬ j < a by omega), Bool.and_false]
  ·rw [dqf h, Bool.false_and])
 obtain ⟨p, hp⟩ : ∃ p, p = w1.heap.size := ⟨_, rfl⟩;rw [<- hp] at HW HB0;clear hb1 ho1 hs1;go_upto_region 3 with fail;rw [<- hW2, <- hp];clear hW2 hp;go_loopw [6] (fun iv wr => ∃ (i : Nat) (ws : List Nat) (A : Option Addr) (c : Nat), iv = .int .i64 (i : Int) /\ a <= i /\ i <= b /\ Hid (BetAt p f a i W2 wr ws A c)) (fun iv _ => b - (intOf iv).toNat)
 case atStart => exact ⟨a, [], none, 0, rfl, nlr _, Nat.le_of_lt HI.out.1, HB0⟩
 case round =>
  obtain ⟨i, ws, A, c, rfl, hai, hib, HB⟩ := hrel;have hpw : p < wr.heap.size := World.block_lt_of_cell? wr ⟨p, 0, none⟩ HB.out.own.c0;by_cases hlt : i < b
  ·have hiI : (i : Int) < (b : Int) := (by omega);have hN := HI.out.2;have hib2 : i < 1099511627776 := (by omega);have hwr : wrap64 ((i : Int) + 1) = (i : Int) + 1 := IntWalk.wrap64_in _ (by omega);have HAD := lh (add_is (x := ⟨f, ws, A, c⟩) HB.out.own (Nat.le_of_lt hpw) i (by rw [HF.out]; exact Nat.div_le_div_right hai) hib2);have HX := lh (aI hai (aI hlt hpw));clear hib hN hai hpw;go_wp2_with fail;go_at_call 53;refine HAD.out.mono ?_;rintro e w3 ⟨rfl, ws', A', c', hO, hm, hl, hT, hk⟩;have HG := lh (HB.out.go HF.out HX.out.1 hO hm hl hT HX.out.2.2 hk);clear hO hm hl hT hk;go_wp2_with fail;go_roundw
   case rel => exact ⟨i + 1, ws', A', c', by go_num, Nat.le_succ_of_le HX.out.1, HX.out.2.1, HG⟩
   case measure => simp only [intOf]; exact bet_meas HX.out.2.1
  ·have he : i = b := (by omega);subst he;have hiI : ¬ (i : Int) < (i : Int) := Int.lt_irrefl _;have ho := HB.out.tur.obj HW.out.2.2.2 (by have := HW.out.2.1; omega);have c0 := HB.out.own.c0;have c1 := HB.out.own.c1;simp only at c0 c1;obtain ⟨L, hL⟩ : ∃ L, L = ws.length := ⟨_, rfl⟩;rw [<- hL] at c1;obtain ⟨r0, r1⟩ := two_cells ho;have g0 : wr.frozen? ⟨w.heap.size, 0, none⟩ = false := (by simp [World.frozen?, ho]);have g1 : wr.frozen? ⟨w.heap.size, 1, none⟩ = false := (by simp [World.frozen?, ho]);have hlw : w.heap.size < wr.heap.size := lts ho;have HP := lh (bet_post HI.out.1 HI.out.2.1 HF.out HW.out.2.1 HW.out.1 (by have := HW.out.2.2.1; omega) HB.out hL);clear hib hlt hai hL ho hpw;go_wp2_with fail;refine bodyPost_ret (v := .agg #[.int .i64 (f : Int), .slice A L c]) (by simp [results, Tryz.results77, go_sem, r0, r1]) rfl ?_;exact HP.out
open Go.RowKit Go.Deep Go.Sort
def memTo' (y : Ix) (q j : Nat) : Bool := y.mem j && decide (j / 64 < q)
structure DropAt (B p : Nat) (x y : Ix) (w1 : World) (k : Nat) (wr : World) (ws : List Nat) : Prop where
 own : OwnI wr B p ⟨x.f, ws, x.A, x.c⟩
 len : ws.length = x.ws.length
 mem : ∀ j, memN x.f ws j = (x.mem j && !memTo' y (x.f + k) j)
 tur : Turned (Tch p x) w1 wr
theorem and_not_bit (a m b : Nat) (_hb : b < 64) : (a &&& (18446744073709551615 - m % 18446744073709551616)).testBit b = (a.testBit b && !m.testBit b) := by
 rw [Nat.testBit_and];have h : (18446744073709551615 - m % 18446744073709551616) = 2 ^ 64 - (m % 2 ^ 64 + 1) := (by omega);rw [h, Nat.testBit_two_pow_sub_succ (Nat.mod_lt _ (by decide)), Nat.testBit_mod_two_pow, dqt _hb];simp
theorem DropAt.go {B p k a m g : Nat} {x y : Ix} {w1 wr : World} {ws : List Nat} (h : DropAt B p x y w1 k wr ws) (hk : k < x.ws.length) (ha : ws[k]? = some a) (hm : m = wordN y.f y.ws (x.f + k)) (hm64 : m < 18446744073709551616) (ha64 : a < 18446744073709551616) (hA : x.A = some ⟨g, 0, none⟩) :
  DropAt B p x y w1 (k + 1) (wr.setCell ⟨g, k, none⟩ (.int .u64 ((a &&& (18446744073709551615 - m) : Nat) : Int))) (ws.set k (a &&& (18446744073709551615 - m))) := by
 have hv : a &&& (18446744073709551615 - m) < 18446744073709551616 := Nat.lt_of_le_of_lt Nat.and_le_left ha64;refine ⟨h.own.put (x := ⟨x.f, ws, x.A, x.c⟩) hA k _ hv, (List.length_set ..).trans h.len, fun j => ?_, ?_⟩
 ·rw [mem_set (by rw [h.len]; exact hk)];have hj := h.mem j;by_cases e : j / 64 = x.f + k
  ·rw [if_pos e];have hb := and_not_bit a m (j % 64) (Nat.mod_lt _ (by decide));rw [Nat.mod_eq_of_lt hm64] at hb;rw [hb]
   have e1 : memN x.f ws j = a.testBit (j % 64) := by
    unfold memN wordN;rw [if_neg (by omega), show j / 64 - x.f = k by omega, List.getD_eq_getElem?_getD, ha];rfl
   have e2 : y.mem j = m.testBit (j % 64) := by
    unfold Ix.mem memN;rw [e, hm]
   rw [<- e1, hj, <- e2];unfold memTo';rw [dqf (show ¬ j / 64 < x.f + k by omega), dqt (show j / 64 < x.f + (k + 1) by omega), Bool.and_false, Bool.and_true, Bool.not_false, Bool.and_true]
  ·rw [if_neg e, hj];unfold memTo'
   congr 3
   exact decide_eq_decide.2 ⟨fun h => by omega, fun h => by omega⟩
 ·refine Turned.trans (T := fun q => q = g) h.tur ((Turned.refl (fun q => q = g) wr).put' rfl k _) fun q _ hq => .inr ?_;unfold Ix.sl;rw [hA, hq];rfl
theorem DropAt.stays {B p k : Nat} {x y : Ix} {w1 wr w' : World} {ws : List Nat} (h : DropAt B p x y w1 k wr ws) (hb : Below wr.heap.size wr w') : DropAt B p x y w1 k w' ws :=
 ⟨h.own.stays (S := fun _ => False) (Turned.of_below hb) fun _ _ h => h, h.len, h.mem, h.tur.trans (T := fun _ => False) (Turned.of_below hb) fun _ _ h => h.elim⟩
theorem drop_end {x y : Ix} {ws : List Nat} (hm : ∀ j, memN x.f ws j = (x.mem j && !memTo' y (x.f + x.ws.length) j)) (j : Nat) : memN x.f ws j = (x.mem j && !y.mem j) := by
 rw [hm j];unfold memTo';by_cases h : j / 64 < x.f + x.ws.length
 ·rw [dqt h, Bool.and_true]
 ·have : x.mem j = false := by
   unfold Ix.mem memN wordN;split
   ·exact Nat.zero_testBit _
   ·rw [List.getD_eq_getElem?_getD, List.getElem?_eq_none (by omega)];exact Nat.zero_testBit _
  rw [this, Bool.false_and, Bool.false_and]
end Go.Proofs.YtflkfleihlceeaaGreatDoor

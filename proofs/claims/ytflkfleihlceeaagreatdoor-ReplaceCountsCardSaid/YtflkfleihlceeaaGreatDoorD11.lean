import Derived.Test.YtflkfleihlceeaaGreatDoorShelf
import Derived.Test.YtflkfleihlceeaaGreatDoorD04
import Derived.Lib.BitFns
/-
 The greatest index of two sets. No condition but those named at the law.
-/
namespace Go.Proofs.YtflkfleihlceeaaGreatDoor
open Go.RowKit Go.Deep Go.Sort
theorem top_bit : ∀ (n x : Nat), x < n -> x ≠ 0 -> x < 2 ^ 64 -> ∃ k, Lib.bitLen x = k + 1 /\ x.testBit k = true /\ ∀ j, k < j -> x.testBit j = false
 | 0, _, h, _, _ => absurd h (Nat.not_lt_zero _)
 | n + 1, x, hn, h0, hx => by
  have hb := Lib.bitLen_half x h0 hx;by_cases h1 : x = 1
  ·subst h1;refine ⟨0, by rw [hb]; rfl, by decide, fun j hj => ?_⟩;obtain ⟨i, rfl⟩ : ∃ i, j = i + 1 := ⟨j - 1, by omega⟩;rw [Nat.testBit_succ];exact Nat.zero_testBit _
  ·obtain ⟨k, hk, ht, hl⟩ := top_bit n (x / 2) (by omega) (by omega) (by omega);refine ⟨k + 1, by rw [hb, hk]; omega, by rw [Nat.testBit_succ]; exact ht, fun j hj => ?_⟩;obtain ⟨i, rfl⟩ : ∃ i, j = i + 1 := ⟨j - 1, by omega⟩;rw [Nat.testBit_succ];exact hl i (by omega)
def LastIs (x y : Ix) (r : Int) : Prop := (r = -1 /\ ∀ j, x.mem j = true -> y.mem j = false) \/ ∃ j : Nat, r = (j : Int) /\ x.mem j = true /\ y.mem j = true /\ ∀ k, j < k -> x.mem k = true -> y.mem k = false
def NoneFrom (x y : Ix) (a : Nat) : Prop := ∀ j, x.f + a <= j / 64 -> x.mem j = true -> y.mem j = false
theorem NoneFrom.start (x y : Ix) : NoneFrom x y x.ws.length := fun j hj hm => by
 unfold Ix.mem memN wordN at hm;rw [if_neg (by omega), List.getD_eq_getElem?_getD, List.getElem?_eq_none (by omega)] at hm;simp at hm
theorem NoneFrom.stop {x y : Ix} (h : NoneFrom x y 0) : LastIs x y (-1) := .inl ⟨rfl, fun j hm => by
 rcases Nat.lt_or_ge (j / 64) x.f with h1 | h1
 ·unfold Ix.mem memN wordN at hm;rw [if_pos h1, Nat.zero_testBit] at hm;cases hm
 ·exact h j (by omega) hm⟩
theorem mem_both (x y : Ix) (q b : Nat) (hb : b < 64) : (wordN x.f x.ws q &&& wordN y.f y.ws q).testBit b = (x.mem (64 * q + b) && y.mem (64 * q + b)) := by
 rw [Nat.testBit_and, mem_word x q b hb, mem_word y q b hb]
theorem NoneFrom.go {x y : Ix} {a : Nat} (h : NoneFrom x y (a + 1)) (h0 : wordN x.f x.ws (x.f + a) &&& wordN y.f y.ws (x.f + a) = 0) : NoneFrom x y a := fun j hj hm => by
 by_cases e : j / 64 = x.f + a
 ·have hb := mem_both x y (x.f + a) (j % 64) (Nat.mod_lt _ (by decide));rw [h0, Nat.zero_testBit, <- e, show 64 * (j / 64) + j % 64 = j by omega, hm, Bool.true_and] at hb;exact hb.symm
 ·exact h j (by omega) hm
theorem NoneFrom.found {x y : Ix} {a k : Nat} (h : NoneFrom x y (a + 1)) (hk64 : k < 64) (hk : (wordN x.f x.ws (x.f + a) &&& wordN y.f y.ws (x.f + a)).testBit k = true) (hl : ∀ j, k < j -> (wordN x.f x.ws (x.f + a) &&& wordN y.f y.ws (x.f + a)).testBit j = false) : LastIs x y ((64 * (x.f + a) + k : Nat) : Int) := by
 rw [mem_both x y _ k hk64, Bool.and_eq_true] at hk;refine .inr ⟨_, rfl, hk.1, hk.2, fun j hj hm => ?_⟩;by_cases e : j / 64 = x.f + a
 ·have hb := hl (j % 64) (by omega);rw [mem_both x y _ _ (Nat.mod_lt _ (by decide)), <- e, show 64 * (j / 64) + j % 64 = j by omega, hm, Bool.true_and] at hb;exact hb
 ·exact h j (by omega) hm
theorem last_nums {p k : Nat} (hp : p < 100000000000000) (hk : k < 64) : wrap64 ((p : Int) + ((k + 1 : Nat) : Int)) = ((p + k + 1 : Nat) : Int) /\ wrap64 (((p + k + 1 : Nat) : Int) - 1) = ((p + k : Nat) : Int) := by
 refine ⟨by rw [IntWalk.wrap64_in _ (by omega)]; omega, by rw [IntWalk.wrap64_in _ (by omega)]; omega⟩
theorem last_wraps {f a q : Nat} (hq : q = f + a) (h : q < 1099511627776) : wrap64 ((f : Int) + (a : Int)) = (q : Int) /\ wrap64 ((a : Int) - 1) = (a : Int) - 1 /\ wrap64 ((q : Int) * 64) = ((64 * q : Nat) : Int) := by
 refine ⟨?_, ?_, ?_⟩
 ·rw [IntWalk.wrap64_in _ (by omega)]; omega
 ·exact IntWalk.wrap64_in _ (by omega)
 ·rw [IntWalk.wrap64_in _ (by omega)]; omega
theorem last_meas (a : Nat) : ((a : Int) - 1 + 1).toNat < ((a : Int) + 1).toNat := by omega
def LastRel (w : World) (x y : Ix) (o1 o2 : Obj) (av : Value) (wr : World) : Prop := ∃ a : Nat, av = .int .i64 ((a : Int) - 1) /\ a <= x.ws.length /\ NoneFrom x y a /\ Below (w.heap.size + 2) ((w.alloc o1).alloc o2) wr
set_option maxRecDepth 100000 in
set_option maxHeartbeats 2000000 in
theorem last_ix {S T : Nat -> Prop} {N : Nat} {w : World} {x y : Ix} (hx : IxAt S N w x) (hy : IxAt T N w y) (hN : N < 1000000000000) : Calls Tryz.prog 32 #[x.v, y.v] w fun e w' => ∃ r : Int, e = .returned (.int .i64 r) /\ LastIs x y r /\ Below w.heap.size w w' := by
 have HW := lh fun (k : Nat) (hk : k < 1099511627776) (W : World) (hW : Below w.heap.size w W) => word_is (hy.stays hW) (by omega) k hk;have HX := lh hx;have HY := lh hy;have hfits := hx.fits;obtain ⟨f, ef⟩ : ∃ f, f = x.f := ⟨_, rfl⟩;obtain ⟨n, en⟩ : ∃ n, n = x.ws.length := ⟨_, rfl⟩;have HEF := lh (aI ef en);have HF := lh (show f + n <= 15625000001 by omega);have hn1 : wrap64 ((n : Int) - 1) = (n : Int) - 1 := IntWalk.wrap64_in _ (by omega);unfold Ix.v at HW ⊢;rw [<- ef, <- en];clear hx hy hN hfits ef en;go_enter Tryz.func32, Tryz.ntmps32;go_wp2_with fail;try rw [hn1]
 clear hn1;go_loopw [5, 6, 7] (fun av _ _ wr => LastRel w x y (.cells #[.int .i64 (f : Int), .slice x.A n x.c] 68) (.cells #[.int .i64 (y.f : Int), .slice y.A y.ws.length y.c] 68) av wr) (fun av _ _ _ => (intOf av + 1).toNat)
 case atStart => exact ⟨n, rfl, by have := HEF.out.2; omega, by rw [HEF.out.2]; exact NoneFrom.start x y, Below.refl _ _⟩
 case round =>
  obtain ⟨a1, rfl, ha, hnf, hbr⟩ := hrel;have hbw := ((bW w (.cells #[.int .i64 (f : Int), .slice x.A n x.c] 68)).alloc (by simp) (.cells #[.int .i64 (y.f : Int), .slice y.A y.ws.length y.c] 68)).trans (hbr.mono (by omega));have HBW := lh hbw;have HBR := lh hbr;have HA := lh (show a1 <= n by have := HEF.out.2; omega);have HNF := lh hnf;have k0 : wr.cell? ⟨w.heap.size, 0, none⟩ = some (.int .i64 (f : Int)) := (by rw [hbr.cell (by show w.heap.size < _; omega)]; simp [go_sem]);have k1 : wr.cell? ⟨w.heap.size, 1, none⟩ = some (.slice x.A n x.c) := (by rw [hbr.cell (by show w.heap.size < _; omega)]; simp [go_sem]);have l0 : wr.cell? ⟨w.heap.size + 1, 0, none⟩ = some (.int .i64 (y.f : Int)) := (by rw [hbr.cell (by show w.heap.size + 1 < _; omega)]; simp [go_sem]);have l1 : wr.cell? ⟨w.heap.size + 1, 1, none⟩ = some (.slice y.A y.ws.length y.c) := (by rw [hbr.cell (by show w.heap.size + 1 < _; omega)]; simp [go_sem]);clear ha hnf hbr
  match a1 with
  | 0 =>
   have HST := lh (HNF.out.stop);clear hbw;go_wp2_with fail;go_ret;exact ⟨-1, rfl, HST.out, HBW.out⟩
  | a + 1 =>
   have hae : ((a + 1 : Nat) : Int) - 1 = (a : Int) := (by omega);rw [hae];have z : decide ((0 : Int) <= (a : Int)) = true := dqt (by omega);have han : a < n := (by have := HA.out; omega);have hf := HF.out
   have hg : x.ws[a]? = some (wordN x.f x.ws (x.f + a)) := by
    unfold wordN;rw [if_neg (by omega), show x.f + a - x.f = a by omega, List.getD_eq_getElem?_getD, List.getElem?_eq_getElem (by have := HEF.out.2; omega)];rfl
   obtain ⟨g, o, eA, hgl, hc⟩ := HX.out.off.cell (wsV_at hg);rw [eA] at k1;obtain ⟨m1, em1⟩ : ∃ m, m = wordN x.f x.ws (x.f + a) := ⟨_, rfl⟩;obtain ⟨m2, em2⟩ : ∃ m, m = wordN y.f y.ws (x.f + a) := ⟨_, rfl⟩;obtain ⟨q, hq⟩ : ∃ q, q = f + a := ⟨_, rfl⟩;have hqx : q = x.f + a := (by have := HEF.out.1; omega);have hq40 : q < 1099511627776 := (by omega);rw [<- em1] at hc;have hc2 := (hbw.cell hgl).trans hc;have hm1 : m1 < 18446744073709551616 := (by rw [em1]; exact HX.out.ok.at _ _);have hm2 : m2 < 18446744073709551616 := (by rw [em2]; exact HY.out.ok.at _ _);obtain ⟨m, em⟩ : ∃ m, m = m1 &&& m2 := ⟨_, rfl⟩;have hand : bits .and .u64 (m1 : Int) (m2 : Int) = (m : Int) := (by rw [u64_and m1 m2 hm1 hm2, em]);have hmlt : m < 2 ^ 64 := (by rw [em]; exact Nat.and_lt_two_pow (n := 64) _ hm2);have HWQ := lh fun (W : World) (hW : Below w.heap.size w W) => HW.out q hq40 W hW;rw [show wordN y.f y.ws q = m2 by rw [em2, hqx]] at HWQ;have RC := lh (show ∀ d os, Calls Tryz.prog 55 #[.agg #[.int .i64 (y.f : Int), .slice y.A y.ws.length y.c], .int .i64 (q : Int)] (grow (redrawn wr d) os) fun e w'' => e = .returned (.int .u64 (m2 : Int)) /\ ∃ p : Regrown, w'' = grow (redrawn wr p.d) p.os from fun d os => Calls.regrown_of (HWQ.out _ (hbw.trans ((below_regrown wr d os).mono hbw.size))));have HE := lh (show m = wordN x.f x.ws (x.f + a) &&& wordN y.f y.ws (x.f + a) by rw [em, em1, em2]);have HQ := lh (aI hqx (aI hmlt (show 64 * q < 100000000000000 by omega)));obtain ⟨hw1, hw2, hw3⟩ := last_wraps hq (by omega);have p1 := cell_regrown k1;have r0 := cell_regrown l0;have r1 := cell_regrown l1;have s1 := cell_regrown hc2;have haI0 : (0 : Int) <= (a : Int) := Int.natCast_nonneg _;have haI : (a : Int) < (n : Int) := Int.ofNat_lt.2 han;clear hbw hf hg hgl hc em1 em2 em hq hqx hq40 hm1 hm2 hmlt HWQ hae;go_upto_region 5 with fail;go_cut [7] from 20 to 28 (fun t wx => t = .int .u64 (m : Int) /\ Below wr.heap.size wr wx)
   case first =>
    refine wp_region_quiet_below (by kernel_rfl) (by kernel_rfl) ?_
    repeat (go_big_quiet_step (first | (with_reducible exact RC.out _ _)))
    refine wpQuiet_nil ?_;rintro w5 ⟨⟨dq, osq⟩, rfl⟩;have hb5 := below_regrown wr dq osq;generalize grow (redrawn wr dq) osq = w5 at hb5 ⊢;clear p1 r0 r1 s1;go_wp2_with fail;go_meet
    case rel => exact ⟨rfl, hb5⟩
   obtain ⟨rfl, hbc⟩ := hcut;have HBC := lh (HBW.out.trans (hbc.mono HBW.out.size));have HBR2 := lh (HBR.out.trans (hbc.mono (by have := HBR.out.size; rwa [World.size_alloc, World.size_alloc] at this)));clear p1 r0 r1 s1 k0 k1 l0 l1 hc2 hand;by_cases hm0 : m = 0
   ·have z0 : ((m : Int) != 0) = false := (by rw [hm0]; rfl);have HGO := lh (HNF.out.go (HE.out.symm.trans hm0));clear hm0 hbc;go_wp2_with fail;go_roundw
    case rel => exact ⟨a, by rw [hw2], Nat.le_trans (Nat.le_of_lt (Nat.lt_of_lt_of_le (Nat.lt_succ_self a) HA.out)) (Nat.le_of_eq HEF.out.2), HGO.out, HBR2.out⟩
    case measure => simp only [intOf, hw2]; exact last_meas a
   ·have z0 : ((m : Int) != 0) = true := (by simp [hm0]);obtain ⟨k, hk, ht, hl⟩ := top_bit (m + 1) m (Nat.lt_succ_self m) hm0 HQ.out.2.1;have hk64 : k < 64 := bit_lt HQ.out.2.1 ht;have HFD := lh (NoneFrom.found (k := k) HNF.out hk64 (by rw [<- HE.out]; exact ht) (by rw [<- HE.out]; exact hl));have HL := lh fun (W : World) => Tryz.bits_Len64 (m : Int) W (by omega) (by have := HQ.out.2.1; omega);rw [Int.toNat_natCast, hk] at HL;obtain ⟨p, hp⟩ : ∃ p, p = 64 * q := ⟨_, rfl⟩;rw [<- hp] at hw3;obtain ⟨hw4, hw5⟩ := last_nums (p := p) (k := k) (by rw [hp]; exact HQ.out.2.2) hk64;have HPP := lh (show 64 * (x.f + a) + k = p + k by rw [hp, HQ.out.1]);obtain ⟨r, hr⟩ : ∃ r, r = p + k := ⟨_, rfl⟩;rw [<- hr] at hw4 hw5 HPP;rw [HPP.out] at HFD;obtain ⟨k1', hk1'⟩ : ∃ q, q = k + 1 := ⟨_, rfl⟩;rw [<- hk1'] at hw4 HL;obtain ⟨r1', hr1'⟩ : ∃ q, q = r + 1 := ⟨_, rfl⟩;rw [<- hr1'] at hw4 hw5;clear hm0 hbc hk ht hl hk64 hp hr hk1' hr1' hw2;go_wp2_with fail;go_at_call 56;refine (HL.out _).mono ?_;rintro e w6 ⟨rfl, hw6⟩;subst w6;go_wp2_with fail;go_ret;exact ⟨(r : Int), by rw [hw5]; rfl, HFD.out, HBC.out⟩
end Go.Proofs.YtflkfleihlceeaaGreatDoor

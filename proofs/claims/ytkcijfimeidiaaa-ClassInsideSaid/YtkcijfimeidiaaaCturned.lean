/-
  ClassTurned: one or the other. Condition: a set of four words of 64 bits, a byte.
-/
import Derived.Test.YtkcijfimeidiaaaCalive
import Derived.Test.YtkcijfimeidiaaaCeq
import Derived.Lib.QuietBelow
import Derived.BigQuiet
namespace Go.Proofs.Ytkcijfimeidiaaa
open Go.RowKit Go.Sort

theorem xor_twice (m : Nat) (A : Nat → Nat) : (fun k => m ^^^ (fun j => m ^^^ A j) k) = A := by
  funext k
  show m ^^^ (m ^^^ A k) = A k
  rw [← Nat.xor_assoc, Nat.xor_self, Nat.zero_xor]
theorem not_not (A : Nat → Nat) : notS (notS A) = A := xor_twice 18446744073709551615 A
theorem both_not (A : Nat → Nat) (hA : OkS A) : setV (bothS A (notS A)) = setV (withS noS 0 255) := by
  refine setV_eq (hA.both hA.not) (OkS.no.withS _ _) fun c hc => ?_
  rw [has_both, has_not, has_with, has_no, Bool.false_or]
  cases has A c <;> simp <;> omega
/-- A contract, met in a region that draws its order. -/
def RG (wr : World) (f : FuncId) (args : Array Value) (v : Value) : Prop := ∀ d os, Calls Try.prog f args (grow (redrawn wr d) os) fun e w'' => e = .returned v ∧ ∃ p : Regrown, w'' = grow (redrawn wr p.d) p.os
theorem RG.of {f : FuncId} {args : Array Value} {v : Value} (h : ∀ W : World, Calls Try.prog f args W fun e w' => e = .returned v ∧ Below W.heap.size W w') (wr : World) : RG wr f args v := fun _ _ => Calls.regrown_of (h _)

set_option maxRecDepth 100000 in
set_option maxHeartbeats 2000000 in
theorem turned_any (A : Nat → Nat) (c : Nat) (hA : OkS A) (hc : c < 256) (w : World) : Calls Try.prog 11 #[setV A, .int .u8 (c : Int)] w (TrueC w) := by
  have HN := Lib.hid fun (W : World) => not_is A hA W
  have HNN := Lib.hid fun (W : World) => not_is (notS A) hA.not W
  have HA := Lib.hid fun (W : World) => has_is A c hA hc W
  have HB := Lib.hid fun (W : World) => has_is (notS A) c hA.not hc W
  have HCA := Lib.hid fun (W : World) => count_is A hA W
  have HCB := Lib.hid fun (W : World) => count_is (notS A) hA.not W
  have HBO := Lib.hid fun (W : World) => both_is A (notS A) hA hA.not W
  have HW := Lib.hid fun (W : World) => with_is noS 0 255 OkS.no (by decide) (by decide) W
  rw [not_not] at HNN
  rw [both_not A hA] at HBO
  rw [has_not] at HB
  have hsum : wrap64 ((countS A : Int) + (countS (notS A) : Int)) = 256 := by have := count_not A; rw [IntWalk.wrap64_in _ (by omega)]; omega
  generalize withS noS 0 255 = F at HBO HW
  generalize notS A = N at *
  generalize has A c = x at *
  unfold setV at *
  simp only [noS, Int.cast_ofNat_Int] at HW
  clear hA hc
  go_enter Try.func11, Try.ntmps11
  go_wp2_with fail
  go_at_call 39
  refine (HN.out _).mono ?_
  rintro e w1 ⟨rfl, hb1⟩
  have hx1 := (Box.new w A 69).below hb1 (by simp)
  have l1 : w.heap.size < w1.heap.size := Nat.lt_of_lt_of_le (by simp) hb1.size
  have HB1 := Lib.hid (((((Below.refl _ w).alloc (Nat.le_refl _) _).trans (hb1.mono (by simp)))))
  go_upto_region 2 with fail
  obtain ⟨wr, hwr⟩ : ∃ wr, wr = w1.alloc (.cells #[.int .u64 (N 0), .int .u64 (N 1), .int .u64 (N 2), .int .u64 (N 3)] 69) := ⟨_, rfl⟩
  rw [← hwr]
  have hxn : Box wr w1.heap.size N := by rw [hwr]; exact Box.new w1 N _
  have hxa : Box wr w.heap.size A := by rw [hwr]; exact hx1.below ((Below.refl _ w1).alloc (Nat.le_refl _) _) l1
  have HBR := Lib.hid (show Below w.heap.size w wr by rw [hwr]; exact HB1.out.alloc HB1.out.size _)
  clear hwr hx1 l1 hb1
  obtain ⟨k0, k1, k2, k3⟩ := hxa
  obtain ⟨n0, n1, n2, n3⟩ := hxn
  have a0 := cell_regrown k0
  have a1 := cell_regrown k1
  have a2 := cell_regrown k2
  have a3 := cell_regrown k3
  have b0 := cell_regrown n0
  have b1 := cell_regrown n1
  have b2 := cell_regrown n2
  have b3 := cell_regrown n3
  have RAL := Lib.hid (RG.of alive_c wr)
  have RA := Lib.hid (RG.of HA.out wr)
  have RB := Lib.hid (RG.of HB.out wr)
  have RCA := Lib.hid (RG.of HCA.out wr)
  have RCB := Lib.hid (RG.of HCB.out wr)
  have RNN := Lib.hid (RG.of HNN.out wr)
  have RBO := Lib.hid (RG.of HBO.out wr)
  have RW := Lib.hid (RG.of HW.out wr)
  unfold RG at RAL RA RB RCA RCB RNN RBO RW
  clear k0 k1 k2 k3 n0 n1 n2 n3 HN HNN HA HB HCA HCB HBO HW HB1
  have EA := eq_self A
  have EF := eq_self F
  cases x
  · refine wp_region_quiet_below (by kernel_rfl) (by kernel_rfl) ?_
    repeat (go_big_quiet_step (first | (with_reducible exact RAL.out _ _) | (with_reducible exact RA.out _ _) | (with_reducible exact RB.out _ _) | (with_reducible exact RCA.out _ _) | (with_reducible exact RCB.out _ _) | (with_reducible exact RNN.out _ _) | (with_reducible exact RBO.out _ _) | (with_reducible exact RW.out _ _)))
    refine wpQuiet_nil ?_
    rintro w5 ⟨⟨dq, osq⟩, rfl⟩
    have HB5 := Lib.hid (HBR.out.trans ((below_regrown wr dq osq).mono HBR.out.size))
    generalize grow (redrawn wr dq) osq = w5 at HB5 ⊢
    clear a0 a1 a2 a3 b0 b1 b2 b3 RAL RA RB RCA RCB RNN RBO RW EA EF hsum
    go_wp2_with fail
    go_ret
    exact ⟨rfl, HB5.out⟩
  · refine wp_region_quiet_below (by kernel_rfl) (by kernel_rfl) ?_
    repeat (go_big_quiet_step (first | (with_reducible exact RAL.out _ _) | (with_reducible exact RA.out _ _) | (with_reducible exact RB.out _ _) | (with_reducible exact RCA.out _ _) | (with_reducible exact RCB.out _ _) | (with_reducible exact RNN.out _ _) | (with_reducible exact RBO.out _ _) | (with_reducible exact RW.out _ _)))
    refine wpQuiet_nil ?_
    rintro w5 ⟨⟨dq, osq⟩, rfl⟩
    have HB5 := Lib.hid (HBR.out.trans ((below_regrown wr dq osq).mono HBR.out.size))
    generalize grow (redrawn wr dq) osq = w5 at HB5 ⊢
    clear a0 a1 a2 a3 b0 b1 b2 b3 RAL RA RB RCA RCB RNN RBO RW EA EF hsum
    go_wp2_with fail
    go_ret
    exact ⟨rfl, HB5.out⟩
end Go.Proofs.Ytkcijfimeidiaaa

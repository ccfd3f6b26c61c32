/-
  The live question of package class. No condition.
-/
import Derived.Test.YtkcijfimeidiaaaCbrk
namespace Go.Proofs.Ytkcijfimeidiaaa
open Go.RowKit

def TrueC (w : World) (e : Ending) (w' : World) : Prop := e = .returned (.bool true) ∧ Below w.heap.size w w'
def acS : Nat → Nat := bothS noS (withS noS 97 99)
theorem acS_ok : OkS acS := OkS.no.both (OkS.no.withS _ _)
theorem acS_count : countS acS = 3 := by kernel_rfl
theorem acS_b : has acS 98 = true := by kernel_rfl
theorem acS_d : has acS 100 = false := by kernel_rfl
theorem brk_ac : Brk (fun _ => True) ⟨#[97, 45, 99, 93, 120]⟩ 0 noS (some (acS, 3)) := by
  have h := item_is (fun _ => True) ⟨#[97, 45, 99, 93, 120]⟩ rfl
  rw [show itmP [97, 45, 99, 93, 120] = (withS noS 97 99, 3) by rfl] at h
  exact .last (n := 0) (k := 3) (OkS.no.withS _ _) h (by decide) (by decide) (by decide)

/-- Four words in a box. -/
def Box (w : World) (b : Nat) (S : Nat → Nat) : Prop := w.cell? ⟨b, 0, none⟩ = some (.int .u64 (S 0)) ∧ w.cell? ⟨b, 1, none⟩ = some (.int .u64 (S 1)) ∧ w.cell? ⟨b, 2, none⟩ = some (.int .u64 (S 2)) ∧ w.cell? ⟨b, 3, none⟩ = some (.int .u64 (S 3))
theorem Box.below {w w' : World} {b B : Nat} {S : Nat → Nat} (h : Box w b S) (hw : Below B w w') (hb : b < B) : Box w' b S := by
  obtain ⟨h0, h1, h2, h3⟩ := h
  exact ⟨by rw [hw.cell hb]; exact h0, by rw [hw.cell hb]; exact h1, by rw [hw.cell hb]; exact h2, by rw [hw.cell hb]; exact h3⟩
theorem Box.new (w : World) (S : Nat → Nat) (t : TypeId) : Box (w.alloc (.cells #[.int .u64 (S 0), .int .u64 (S 1), .int .u64 (S 2), .int .u64 (S 3)] t)) w.heap.size S := by
  refine ⟨?_, ?_, ?_, ?_⟩ <;> simp [go_sem]

set_option maxRecDepth 100000 in
theorem alive_c (w : World) : Calls Try.prog 34 #[] w (TrueC w) := by
  have HBK := Lib.hid fun (W : World) => bracket_is (fun _ => True) (fun _ _ _ _ => trivial) ⟨#[97, 45, 99, 93, 120]⟩ false rfl (some (acS, 3)) brk_ac (by decide) W trivial
  have HC := Lib.hid fun (W : World) => count_is acS acS_ok W
  rw [acS_count] at HC
  have H1 := Lib.hid fun (W : World) => has_is acS 98 acS_ok (by decide) W
  rw [acS_b] at H1
  have H2 := Lib.hid fun (W : World) => has_is acS 100 acS_ok (by decide) W
  rw [acS_d] at H2
  generalize acS = S at HBK HC H1 H2
  simp only [brkV, Bool.false_eq_true, if_false, setV, Nat.reduceAdd, Int.cast_ofNat_Int] at HBK HC H1 H2
  go_enter Try.func34, Try.ntmps34
  go_wp2_with fail
  go_at_call 47
  refine (HBK.out _).mono ?_
  rintro e w1 ⟨rfl, hb1⟩
  go_wp2_with fail
  go_at_call 43
  refine (HC.out _).mono ?_
  rintro e w2 ⟨rfl, hb2⟩
  have hx2 := (Box.new w1 S 69).below hb2 (by simp)
  have l2 : w1.heap.size < w2.heap.size := Nat.lt_of_lt_of_le (by simp) hb2.size
  have HB2 := Lib.hid (hb1.trans (((((Below.refl _ w1).alloc (Nat.le_refl _) _).trans (hb2.mono (by simp)))).mono hb1.size))
  have HX2 := Lib.hid hx2
  obtain ⟨k0, k1, k2, k3⟩ := hx2
  have HL2 := Lib.hid l2
  clear hb1 hb2 l2
  go_wp2_with fail
  go_at_call 35
  refine (H1.out _).mono ?_
  rintro e w3 ⟨rfl, hb3⟩
  have HB3 := Lib.hid (HB2.out.trans (hb3.mono HB2.out.size))
  clear k0 k1 k2 k3
  obtain ⟨k0, k1, k2, k3⟩ := HX2.out.below hb3 HL2.out
  clear hb3
  go_wp2_with fail
  go_at_call 35
  refine (H2.out _).mono ?_
  rintro e w4 ⟨rfl, hb4⟩
  have HB4 := Lib.hid (HB3.out.trans (hb4.mono HB3.out.size))
  clear hb4
  go_wp2_with fail
  go_ret
  exact ⟨rfl, HB4.out⟩
end Go.Proofs.Ytkcijfimeidiaaa

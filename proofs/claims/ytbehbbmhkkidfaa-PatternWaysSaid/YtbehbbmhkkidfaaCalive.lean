/-
  The live question of package class. No condition.
-/
import Derived.Test.YtbehbbmhkkidfaaCbrk
namespace Go.Proofs.Ytbehbbmhkkidfaa
open Go.RowKit

def TrueC (w : World) (e : Ending) (w' : World) : Prop := e = .returned (.bool true) ∧ Below w.heap.size w w'
def acS : Nat → Nat := bothS noS (withS noS 97 99)
theorem acS_ok : OkS acS := OkS.no.both (OkS.no.withS _ _)
theorem acS_count : countS acS = 3 := by kernel_rfl
theorem acS_b : has acS 98 = true := by kernel_rfl
theorem acS_d : has acS 100 = false := by kernel_rfl
theorem brk_ac : Brk (fun _ => True) ⟨#[97, 45, 99, 93, 120]⟩ 0 noS (some (acS, 3)) := by
  have h := item_is (fun _ => True) ⟨#[97, 45, 99, 93, 120]⟩ rfl
  rw [show itmP [97, 45, 99, 93, 120] = (withS noS 97 99, 3) by rfl] at h
  exact .last (n := 0) (k := 3) (OkS.no.withS _ _) h (by decide) (by decide) (by decide)

/-- Four words in a box. -/
def Box (w : World) (b : Nat) (S : Nat → Nat) : Prop := w.cell? ⟨b, 0, none⟩ = some (.int .u64 (S 0)) ∧ w.cell? ⟨b, 1, none⟩ = some (.int .u64 (S 1)) ∧ w.cell? ⟨b, 2, none⟩ = some (.int .u64 (S 2)) ∧ w.cell? ⟨b, 3, none⟩ = some (.int .u64 (S 3))
theorem Box.below {w w' : World} {b B : Nat} {S : Nat → Nat} (h : Box w b S) (hw : Below B w w') (hb : b < B) : Box w' b S := by
  obtain ⟨h0, h1, h2, h3⟩ := h
  exact ⟨by rw [hw.cell hb]; exact h0, by rw [hw.cell hb]; exact h1, by rw [hw.cell hb]; exact h2, by rw [hw.cell hb]; exact h3⟩
theorem Box.new (w : World) (S : Nat → Nat) (t : TypeId) : Box (w.alloc (.cells #[.int .u64 (S 0), .int .u64 (S 1), .int .u64 (S 2), .int .u64 (S 3)] t)) w.heap.size S := by
  refine ⟨?_, ?_, ?_, ?_⟩ <;> simp [go_sem]

end Go.Proofs.Ytbehbbmhkkidfaa

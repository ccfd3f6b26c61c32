/-
  Boxes of four words, stored to and kept; sets told byte by byte. Conditions: those named at each law.
-/
import Derived.Test.YtbehbbmhkkidfaaCalive
namespace Go.Proofs.Ytbehbbmhkkidfaa
open Go.RowKit

def BoxF (w : World) (b : Nat) (S : Nat → Nat) : Prop :=
  (w.cell? ⟨b, 0, none⟩ = some (.int .u64 (S 0)) ∧ w.cell? ⟨b, 1, none⟩ = some (.int .u64 (S 1)) ∧ w.cell? ⟨b, 2, none⟩ = some (.int .u64 (S 2)) ∧ w.cell? ⟨b, 3, none⟩ = some (.int .u64 (S 3))) ∧
  (w.frozen? ⟨b, 0, none⟩ = false ∧ w.frozen? ⟨b, 1, none⟩ = false ∧ w.frozen? ⟨b, 2, none⟩ = false ∧ w.frozen? ⟨b, 3, none⟩ = false)
def st4 (w : World) (b : Nat) (A : Nat → Nat) : World := (((w.setCell ⟨b, 0, none⟩ (.int .u64 (A 0))).setCell ⟨b, 1, none⟩ (.int .u64 (A 1))).setCell ⟨b, 2, none⟩ (.int .u64 (A 2))).setCell ⟨b, 3, none⟩ (.int .u64 (A 3))
theorem BoxF.below {w w' : World} {b B : Nat} {S : Nat → Nat} (h : BoxF w b S) (hw : Below B w w') (hb : b < B) : BoxF w' b S := by
  obtain ⟨⟨h0, h1, h2, h3⟩, f0, f1, f2, f3⟩ := h
  exact ⟨⟨by rw [hw.cell hb]; exact h0, by rw [hw.cell hb]; exact h1, by rw [hw.cell hb]; exact h2, by rw [hw.cell hb]; exact h3⟩, by rw [hw.frozen hb]; exact f0, by rw [hw.frozen hb]; exact f1, by rw [hw.frozen hb]; exact f2, by rw [hw.frozen hb]; exact f3⟩
theorem BoxF.new (w : World) (S : Nat → Nat) (t : TypeId) : BoxF (w.alloc (.cells #[.int .u64 (S 0), .int .u64 (S 1), .int .u64 (S 2), .int .u64 (S 3)] t)) w.heap.size S := by
  refine ⟨⟨?_, ?_, ?_, ?_⟩, ?_, ?_, ?_, ?_⟩ <;> simp [go_sem]
theorem BoxF.zero (w : World) (t : TypeId) : BoxF (w.alloc (.cells #[.int .u64 0, .int .u64 0, .int .u64 0, .int .u64 0] t)) w.heap.size noS := BoxF.new w noS t
theorem BoxF.alloc {w : World} {b : Nat} {S : Nat → Nat} (h : BoxF w b S) (hb : b < w.heap.size) (o : Obj) : BoxF (w.alloc o) b S := h.below ((Below.refl _ w).alloc (Nat.le_refl _) o) hb
theorem BoxF.st {w : World} {b : Nat} {S : Nat → Nat} (h : BoxF w b S) (A : Nat → Nat) : BoxF (st4 w b A) b A := by
  obtain ⟨⟨h0, h1, h2, h3⟩, f0, f1, f2, f3⟩ := h
  unfold st4
  refine ⟨⟨?_, ?_, ?_, ?_⟩, ?_, ?_, ?_, ?_⟩ <;> simp [go_sem, *]
theorem BoxF.other {w : World} {b b' : Nat} {S : Nat → Nat} (h : BoxF w b S) (hne : b ≠ b') (A : Nat → Nat) : BoxF (st4 w b' A) b S := by
  obtain ⟨⟨h0, h1, h2, h3⟩, f0, f1, f2, f3⟩ := h
  unfold st4
  refine ⟨⟨?_, ?_, ?_, ?_⟩, ?_, ?_, ?_, ?_⟩ <;> simp [go_sem, *]
theorem below_st4 {B : Nat} {w w1 : World} (h : Below B w w1) {b : Nat} (hb : B ≤ b) (A : Nat → Nat) : Below B w (st4 w1 b A) := below4 h hb _ _ _ _
theorem size_st4 (w : World) (b : Nat) (A : Nat → Nat) : (st4 w b A).heap.size = w.heap.size := by simp [st4, World.setCell]

/-- The bytes below n of which f is true. -/
def bld (f : Nat → Bool) : Nat → Nat → Nat
  | 0 => noS
  | n + 1 => if f n = true then ins (bld f n) n else bld f n
theorem OkS.bld (f : Nat → Bool) : ∀ n, OkS (bld f n)
  | 0 => OkS.no
  | n + 1 => by
    unfold Proofs.Ytbehbbmhkkidfaa.bld
    split
    · exact (OkS.bld f n).ins n
    · exact OkS.bld f n
theorem has_bld (f : Nat → Bool) (d : Nat) : ∀ n, has (bld f n) d = (f d && decide (d < n))
  | 0 => by rw [bld, has_no]; simp
  | n + 1 => by
    unfold bld
    by_cases hn : f n = true
    · rw [if_pos hn, has_ins, has_bld f d n]
      by_cases hd : d = n
      · subst hd; simp [hn]
      · rw [decide_eq_false hd, Bool.or_false]
        congr 1
        exact decide_eq_decide.2 ⟨fun h => by omega, fun h => by omega⟩
    · rw [if_neg hn, has_bld f d n]
      by_cases hd : d = n
      · subst hd; simp [hn]
      · congr 1
        exact decide_eq_decide.2 ⟨fun h => by omega, fun h => by omega⟩
theorem bld_eq {f : Nat → Bool} {A : Nat → Nat} (hA : OkS A) (h : ∀ c, c < 256 → f c = has A c) : setV (bld f 256) = setV A := by
  refine setV_eq (OkS.bld f 256) hA fun c hc => ?_
  rw [has_bld, decide_eq_true hc, Bool.and_true, h c hc]
theorem bld_not (A : Nat → Nat) (hA : OkS A) : setV (bld (fun c => !has A c) 256) = setV (notS A) := bld_eq hA.not fun c _ => (has_not A c).symm
theorem bld_both (A B : Nat → Nat) (hA : OkS A) (hB : OkS B) : setV (bld (fun c => has A c || has B c) 256) = setV (bothS A B) := bld_eq (hA.both hB) fun c _ => (has_both A B c).symm
end Go.Proofs.Ytbehbbmhkkidfaa

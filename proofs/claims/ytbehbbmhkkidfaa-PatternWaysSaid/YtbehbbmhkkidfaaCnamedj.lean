/-
  class.named, up to its two sets: a region with boxes of its own, by an invariant. No condition.
-/
import Derived.Test.YtbehbbmhkkidfaaCbox
import Derived.Test.YtbehbbmhkkidfaaCinv
import Derived.Deep.CutRange
import Derived.Lib.QuietBelow
import Derived.BigQuiet
namespace Go.Proofs.Ytbehbbmhkkidfaa
open Go.RowKit Go.Sort

def cUP : Nat → Nat := withS noS 65 90
def cLO : Nat → Nat := withS noS 97 122
def cDI : Nat → Nat := withS noS 48 57
def cAL : Nat → Nat := bothS (bothS cUP cLO) cDI
def cGR : Nat → Nat := withS noS 33 126
abbrev agV (A : Nat → Nat) : Value := .agg #[.int .u64 (A 0), .int .u64 (A 1), .int .u64 (A 2), .int .u64 (A 3)]

theorem flag_other {l : Array Bool} {i k : Nat} (h : i ≠ k) (hk : (l.setIfInBounds i true).getD k false = true) : l.getD k false = true := by rwa [getD_set_ne false h] at hk
theorem flag_now {l : Array Bool} {i : Nat} (h : i < l.size) : (l.setIfInBounds i true).getD i false = true := by simp [h]

/-- What holds in the region that makes the letters' and figures' set, and the visible bytes', whatever is done (ℓ). -/
structure NJ (ℓ : Array Bool) (wr : World) (x6 x7 x11 x12 x13 x14 x15 x16 : Value) (w : World) : Prop where
  c0 : ℓ.getD 0 false = true → x11 = agV cUP
  c1 : ℓ.getD 1 false = true → x12 = agV cLO
  c2 : ℓ.getD 2 false = true → x13 = agV (bothS cUP cLO)
  c3 : ℓ.getD 3 false = true → x14 = agV cDI
  c4 : ℓ.getD 4 false = true → x15 = agV cAL
  c5 : ℓ.getD 5 false = true → x16 = agV cGR
  bel : Below wr.heap.size wr w
  c6 : ℓ.getD 6 false = true → ∃ b, x6 = .pointer (some ⟨b, 0, none⟩) ∧ wr.heap.size ≤ b ∧ b < w.heap.size ∧ BoxF w b (if ℓ.getD 8 false = true then cAL else noS)
  c7 : ℓ.getD 7 false = true → ∃ b, x7 = .pointer (some ⟨b, 0, none⟩) ∧ wr.heap.size ≤ b ∧ b < w.heap.size ∧ BoxF w b (if ℓ.getD 9 false = true then cGR else noS)
  d8 : ℓ.getD 8 false = true → ℓ.getD 6 false = true
  d9 : ℓ.getD 9 false = true → ℓ.getD 7 false = true
  ne : ℓ.getD 6 false = true → ℓ.getD 7 false = true → x6 ≠ x7
theorem NJ.op0 {ℓ : Array Bool} {wr w w1 : World} {x6 x7 x11 x12 x13 x14 x15 x16 : Value} (j : NJ ℓ wr x6 x7 x11 x12 x13 x14 x15 x16 w) (hb : Below w.heap.size w w1) : NJ (ℓ.setIfInBounds 0 true) wr x6 x7 (agV cUP) x12 x13 x14 x15 x16 w1 := by
  refine ⟨fun _ => rfl, fun h => j.c1 (flag_other (i := 0) (by decide) h), fun h => j.c2 (flag_other (i := 0) (by decide) h), fun h => j.c3 (flag_other (i := 0) (by decide) h), fun h => j.c4 (flag_other (i := 0) (by decide) h), fun h => j.c5 (flag_other (i := 0) (by decide) h), j.bel.trans (hb.mono j.bel.size), fun h => ?_, fun h => ?_, fun h => ?_, fun h => ?_, fun h h' => j.ne (flag_other (by decide) h) (flag_other (by decide) h')⟩
  · obtain ⟨b, h1, h2, h3, h4⟩ := j.c6 (flag_other (by decide) h)
    refine ⟨b, h1, h2, Nat.lt_of_lt_of_le h3 hb.size, ?_⟩
    rw [getD_set_ne false (by decide)]
    exact h4.below hb h3
  · obtain ⟨b, h1, h2, h3, h4⟩ := j.c7 (flag_other (by decide) h)
    refine ⟨b, h1, h2, Nat.lt_of_lt_of_le h3 hb.size, ?_⟩
    rw [getD_set_ne false (by decide)]
    exact h4.below hb h3
  · rw [getD_set_ne false (by decide)]
    exact j.d8 (flag_other (by decide) h)
  · rw [getD_set_ne false (by decide)]
    exact j.d9 (flag_other (by decide) h)
theorem NJ.op1 {ℓ : Array Bool} {wr w w1 : World} {x6 x7 x11 x12 x13 x14 x15 x16 : Value} (j : NJ ℓ wr x6 x7 x11 x12 x13 x14 x15 x16 w) (hb : Below w.heap.size w w1) : NJ (ℓ.setIfInBounds 1 true) wr x6 x7 x11 (agV cLO) x13 x14 x15 x16 w1 := by
  refine ⟨fun h => j.c0 (flag_other (i := 1) (by decide) h), fun _ => rfl, fun h => j.c2 (flag_other (i := 1) (by decide) h), fun h => j.c3 (flag_other (i := 1) (by decide) h), fun h => j.c4 (flag_other (i := 1) (by decide) h), fun h => j.c5 (flag_other (i := 1) (by decide) h), j.bel.trans (hb.mono j.bel.size), fun h => ?_, fun h => ?_, fun h => ?_, fun h => ?_, fun h h' => j.ne (flag_other (by decide) h) (flag_other (by decide) h')⟩
  · obtain ⟨b, h1, h2, h3, h4⟩ := j.c6 (flag_other (by decide) h)
    refine ⟨b, h1, h2, Nat.lt_of_lt_of_le h3 hb.size, ?_⟩
    rw [getD_set_ne false (by decide)]
    exact h4.below hb h3
  · obtain ⟨b, h1, h2, h3, h4⟩ := j.c7 (flag_other (by decide) h)
    refine ⟨b, h1, h2, Nat.lt_of_lt_of_le h3 hb.size, ?_⟩
    rw [getD_set_ne false (by decide)]
    exact h4.below hb h3
  · rw [getD_set_ne false (by decide)]
    exact j.d8 (flag_other (by decide) h)
  · rw [getD_set_ne false (by decide)]
    exact j.d9 (flag_other (by decide) h)
theorem NJ.op2 {ℓ : Array Bool} {wr w w1 : World} {x6 x7 x11 x12 x13 x14 x15 x16 : Value} (j : NJ ℓ wr x6 x7 x11 x12 x13 x14 x15 x16 w) (hb : Below w.heap.size w w1) : NJ (ℓ.setIfInBounds 2 true) wr x6 x7 x11 x12 (agV (bothS cUP cLO)) x14 x15 x16 w1 := by
  refine ⟨fun h => j.c0 (flag_other (i := 2) (by decide) h), fun h => j.c1 (flag_other (i := 2) (by decide) h), fun _ => rfl, fun h => j.c3 (flag_other (i := 2) (by decide) h), fun h => j.c4 (flag_other (i := 2) (by decide) h), fun h => j.c5 (flag_other (i := 2) (by decide) h), j.bel.trans (hb.mono j.bel.size), fun h => ?_, fun h => ?_, fun h => ?_, fun h => ?_, fun h h' => j.ne (flag_other (by decide) h) (flag_other (by decide) h')⟩
  · obtain ⟨b, h1, h2, h3, h4⟩ := j.c6 (flag_other (by decide) h)
    refine ⟨b, h1, h2, Nat.lt_of_lt_of_le h3 hb.size, ?_⟩
    rw [getD_set_ne false (by decide)]
    exact h4.below hb h3
  · obtain ⟨b, h1, h2, h3, h4⟩ := j.c7 (flag_other (by decide) h)
    refine ⟨b, h1, h2, Nat.lt_of_lt_of_le h3 hb.size, ?_⟩
    rw [getD_set_ne false (by decide)]
    exact h4.below hb h3
  · rw [getD_set_ne false (by decide)]
    exact j.d8 (flag_other (by decide) h)
  · rw [getD_set_ne false (by decide)]
    exact j.d9 (flag_other (by decide) h)
theorem NJ.op3 {ℓ : Array Bool} {wr w w1 : World} {x6 x7 x11 x12 x13 x14 x15 x16 : Value} (j : NJ ℓ wr x6 x7 x11 x12 x13 x14 x15 x16 w) (hb : Below w.heap.size w w1) : NJ (ℓ.setIfInBounds 3 true) wr x6 x7 x11 x12 x13 (agV cDI) x15 x16 w1 := by
  refine ⟨fun h => j.c0 (flag_other (i := 3) (by decide) h), fun h => j.c1 (flag_other (i := 3) (by decide) h), fun h => j.c2 (flag_other (i := 3) (by decide) h), fun _ => rfl, fun h => j.c4 (flag_other (i := 3) (by decide) h), fun h => j.c5 (flag_other (i := 3) (by decide) h), j.bel.trans (hb.mono j.bel.size), fun h => ?_, fun h => ?_, fun h => ?_, fun h => ?_, fun h h' => j.ne (flag_other (by decide) h) (flag_other (by decide) h')⟩
  · obtain ⟨b, h1, h2, h3, h4⟩ := j.c6 (flag_other (by decide) h)
    refine ⟨b, h1, h2, Nat.lt_of_lt_of_le h3 hb.size, ?_⟩
    rw [getD_set_ne false (by decide)]
    exact h4.below hb h3
  · obtain ⟨b, h1, h2, h3, h4⟩ := j.c7 (flag_other (by decide) h)
    refine ⟨b, h1, h2, Nat.lt_of_lt_of_le h3 hb.size, ?_⟩
    rw [getD_set_ne false (by decide)]
    exact h4.below hb h3
  · rw [getD_set_ne false (by decide)]
    exact j.d8 (flag_other (by decide) h)
  · rw [getD_set_ne false (by decide)]
    exact j.d9 (flag_other (by decide) h)
theorem NJ.op4 {ℓ : Array Bool} {wr w w1 : World} {x6 x7 x11 x12 x13 x14 x15 x16 : Value} (j : NJ ℓ wr x6 x7 x11 x12 x13 x14 x15 x16 w) (hb : Below w.heap.size w w1) : NJ (ℓ.setIfInBounds 4 true) wr x6 x7 x11 x12 x13 x14 (agV cAL) x16 w1 := by
  refine ⟨fun h => j.c0 (flag_other (i := 4) (by decide) h), fun h => j.c1 (flag_other (i := 4) (by decide) h), fun h => j.c2 (flag_other (i := 4) (by decide) h), fun h => j.c3 (flag_other (i := 4) (by decide) h), fun _ => rfl, fun h => j.c5 (flag_other (i := 4) (by decide) h), j.bel.trans (hb.mono j.bel.size), fun h => ?_, fun h => ?_, fun h => ?_, fun h => ?_, fun h h' => j.ne (flag_other (by decide) h) (flag_other (by decide) h')⟩
  · obtain ⟨b, h1, h2, h3, h4⟩ := j.c6 (flag_other (by decide) h)
    refine ⟨b, h1, h2, Nat.lt_of_lt_of_le h3 hb.size, ?_⟩
    rw [getD_set_ne false (by decide)]
    exact h4.below hb h3
  · obtain ⟨b, h1, h2, h3, h4⟩ := j.c7 (flag_other (by decide) h)
    refine ⟨b, h1, h2, Nat.lt_of_lt_of_le h3 hb.size, ?_⟩
    rw [getD_set_ne false (by decide)]
    exact h4.below hb h3
  · rw [getD_set_ne false (by decide)]
    exact j.d8 (flag_other (by decide) h)
  · rw [getD_set_ne false (by decide)]
    exact j.d9 (flag_other (by decide) h)
theorem NJ.op5 {ℓ : Array Bool} {wr w w1 : World} {x6 x7 x11 x12 x13 x14 x15 x16 : Value} (j : NJ ℓ wr x6 x7 x11 x12 x13 x14 x15 x16 w) (hb : Below w.heap.size w w1) : NJ (ℓ.setIfInBounds 5 true) wr x6 x7 x11 x12 x13 x14 x15 (agV cGR) w1 := by
  refine ⟨fun h => j.c0 (flag_other (i := 5) (by decide) h), fun h => j.c1 (flag_other (i := 5) (by decide) h), fun h => j.c2 (flag_other (i := 5) (by decide) h), fun h => j.c3 (flag_other (i := 5) (by decide) h), fun h => j.c4 (flag_other (i := 5) (by decide) h), fun _ => rfl, j.bel.trans (hb.mono j.bel.size), fun h => ?_, fun h => ?_, fun h => ?_, fun h => ?_, fun h h' => j.ne (flag_other (by decide) h) (flag_other (by decide) h')⟩
  · obtain ⟨b, h1, h2, h3, h4⟩ := j.c6 (flag_other (by decide) h)
    refine ⟨b, h1, h2, Nat.lt_of_lt_of_le h3 hb.size, ?_⟩
    rw [getD_set_ne false (by decide)]
    exact h4.below hb h3
  · obtain ⟨b, h1, h2, h3, h4⟩ := j.c7 (flag_other (by decide) h)
    refine ⟨b, h1, h2, Nat.lt_of_lt_of_le h3 hb.size, ?_⟩
    rw [getD_set_ne false (by decide)]
    exact h4.below hb h3
  · rw [getD_set_ne false (by decide)]
    exact j.d8 (flag_other (by decide) h)
  · rw [getD_set_ne false (by decide)]
    exact j.d9 (flag_other (by decide) h)
theorem NJ.op6 {ℓ : Array Bool} {wr w : World} {x6 x7 x11 x12 x13 x14 x15 x16 : Value} (t : TypeId) (hs : 6 < ℓ.size) (hun : ℓ.getD 6 true = false) (j : NJ ℓ wr x6 x7 x11 x12 x13 x14 x15 x16 w) : NJ (ℓ.setIfInBounds 6 true) wr (.pointer (some ⟨w.heap.size, 0, none⟩)) x7 x11 x12 x13 x14 x15 x16 (w.alloc (.cells #[.int .u64 0, .int .u64 0, .int .u64 0, .int .u64 0] t)) := by
  refine ⟨fun h => j.c0 (flag_other (i := 6) (by decide) h), fun h => j.c1 (flag_other (i := 6) (by decide) h), fun h => j.c2 (flag_other (i := 6) (by decide) h), fun h => j.c3 (flag_other (i := 6) (by decide) h), fun h => j.c4 (flag_other (i := 6) (by decide) h), fun h => j.c5 (flag_other (i := 6) (by decide) h), j.bel.alloc j.bel.size _, fun h => ?_, fun h => ?_, fun h => ?_, fun h => ?_, fun h h' => ?_⟩
  · refine ⟨w.heap.size, rfl, j.bel.size, by simp, ?_⟩
    rw [getD_set_ne false (by decide)]
    have hn : ¬ ℓ.getD 8 false = true := fun h => by have := j.d8 h; rw [getD_both hun] at this; cases this
    rw [if_neg hn]
    exact BoxF.zero w _
  · obtain ⟨b, h1, h2, h3, h4⟩ := j.c7 (flag_other (by decide) h)
    refine ⟨b, h1, h2, by simp; omega, ?_⟩
    rw [getD_set_ne false (by decide)]
    exact h4.alloc h3 _
  · have h0 := j.d8 (flag_other (by decide) h)
    exact flag_now hs
  · have h0 := j.d9 (flag_other (by decide) h)
    rw [getD_set_ne false (by decide)]; exact h0
  · obtain ⟨b, h1, h2, h3, h4⟩ := j.c7 (flag_other (by decide) h')
    intro e
    rw [h1] at e
    injection e with e
    injection e with e
    injection e with e
    omega
theorem NJ.op7 {ℓ : Array Bool} {wr w : World} {x6 x7 x11 x12 x13 x14 x15 x16 : Value} (t : TypeId) (hs : 7 < ℓ.size) (hun : ℓ.getD 7 true = false) (j : NJ ℓ wr x6 x7 x11 x12 x13 x14 x15 x16 w) : NJ (ℓ.setIfInBounds 7 true) wr x6 (.pointer (some ⟨w.heap.size, 0, none⟩)) x11 x12 x13 x14 x15 x16 (w.alloc (.cells #[.int .u64 0, .int .u64 0, .int .u64 0, .int .u64 0] t)) := by
  refine ⟨fun h => j.c0 (flag_other (i := 7) (by decide) h), fun h => j.c1 (flag_other (i := 7) (by decide) h), fun h => j.c2 (flag_other (i := 7) (by decide) h), fun h => j.c3 (flag_other (i := 7) (by decide) h), fun h => j.c4 (flag_other (i := 7) (by decide) h), fun h => j.c5 (flag_other (i := 7) (by decide) h), j.bel.alloc j.bel.size _, fun h => ?_, fun h => ?_, fun h => ?_, fun h => ?_, fun h h' => ?_⟩
  · obtain ⟨b, h1, h2, h3, h4⟩ := j.c6 (flag_other (by decide) h)
    refine ⟨b, h1, h2, by simp; omega, ?_⟩
    rw [getD_set_ne false (by decide)]
    exact h4.alloc h3 _
  · refine ⟨w.heap.size, rfl, j.bel.size, by simp, ?_⟩
    rw [getD_set_ne false (by decide)]
    have hn : ¬ ℓ.getD 9 false = true := fun h => by have := j.d9 h; rw [getD_both hun] at this; cases this
    rw [if_neg hn]
    exact BoxF.zero w _
  · have h0 := j.d8 (flag_other (by decide) h)
    rw [getD_set_ne false (by decide)]; exact h0
  · have h0 := j.d9 (flag_other (by decide) h)
    exact flag_now hs
  · obtain ⟨b, h1, h2, h3, h4⟩ := j.c6 (flag_other (by decide) h)
    intro e
    rw [h1] at e
    injection e with e
    injection e with e
    injection e with e
    omega
theorem NJ.op8 {ℓ : Array Bool} {wr w : World} {b : Nat} {x6 x7 x11 x12 x13 x14 x15 x16 : Value} (hs : 8 < ℓ.size) (h6 : ℓ.getD 6 false = true) (h7 : ℓ.getD 7 false = true) (hx : x6 = .pointer (some ⟨b, 0, none⟩)) (j : NJ ℓ wr x6 x7 x11 x12 x13 x14 x15 x16 w) : NJ (ℓ.setIfInBounds 8 true) wr x6 x7 x11 x12 x13 x14 x15 x16 (st4 w b cAL) := by
  obtain ⟨b', e1, e2, e3, e4⟩ := j.c6 h6
  have eb : b' = b := by
    rw [hx] at e1
    injection e1 with e1
    injection e1 with e1
    injection e1 with e1
    exact e1.symm
  subst eb
  refine ⟨fun h => j.c0 (flag_other (i := 8) (by decide) h), fun h => j.c1 (flag_other (i := 8) (by decide) h), fun h => j.c2 (flag_other (i := 8) (by decide) h), fun h => j.c3 (flag_other (i := 8) (by decide) h), fun h => j.c4 (flag_other (i := 8) (by decide) h), fun h => j.c5 (flag_other (i := 8) (by decide) h), below_st4 j.bel e2 _, fun h => ?_, fun h => ?_, fun h => ?_, fun h => ?_, fun h h' => j.ne (flag_other (by decide) h) (flag_other (by decide) h')⟩
  · refine ⟨b', hx, e2, by rw [size_st4]; exact e3, ?_⟩
    rw [if_pos (flag_now hs)]
    exact e4.st _
  · obtain ⟨c, f1, f2, f3, f4⟩ := j.c7 h7
    refine ⟨c, f1, f2, by rw [size_st4]; exact f3, ?_⟩
    rw [getD_set_ne false (by decide)]
    refine f4.other (fun e => ?_) _
    subst e
    exact j.ne h6 h7 (hx.trans f1.symm)
  · rw [getD_set_ne false (by decide)]
    exact h6
  · rw [getD_set_ne false (by decide)]
    exact h7
theorem NJ.op9 {ℓ : Array Bool} {wr w : World} {b : Nat} {x6 x7 x11 x12 x13 x14 x15 x16 : Value} (hs : 9 < ℓ.size) (h7 : ℓ.getD 7 false = true) (h6 : ℓ.getD 6 false = true) (hx : x7 = .pointer (some ⟨b, 0, none⟩)) (j : NJ ℓ wr x6 x7 x11 x12 x13 x14 x15 x16 w) : NJ (ℓ.setIfInBounds 9 true) wr x6 x7 x11 x12 x13 x14 x15 x16 (st4 w b cGR) := by
  obtain ⟨b', e1, e2, e3, e4⟩ := j.c7 h7
  have eb : b' = b := by
    rw [hx] at e1
    injection e1 with e1
    injection e1 with e1
    injection e1 with e1
    exact e1.symm
  subst eb
  refine ⟨fun h => j.c0 (flag_other (i := 9) (by decide) h), fun h => j.c1 (flag_other (i := 9) (by decide) h), fun h => j.c2 (flag_other (i := 9) (by decide) h), fun h => j.c3 (flag_other (i := 9) (by decide) h), fun h => j.c4 (flag_other (i := 9) (by decide) h), fun h => j.c5 (flag_other (i := 9) (by decide) h), below_st4 j.bel e2 _, fun h => ?_, fun h => ?_, fun h => ?_, fun h => ?_, fun h h' => j.ne (flag_other (by decide) h) (flag_other (by decide) h')⟩
  · obtain ⟨c, f1, f2, f3, f4⟩ := j.c6 h6
    refine ⟨c, f1, f2, by rw [size_st4]; exact f3, ?_⟩
    rw [getD_set_ne false (by decide)]
    refine f4.other (fun e => ?_) _
    subst e
    exact j.ne h6 h7 (f1.trans hx.symm)
  · refine ⟨b', hx, e2, by rw [size_st4]; exact e3, ?_⟩
    rw [if_pos (flag_now hs)]
    exact e4.st _
  · rw [getD_set_ne false (by decide)]
    exact h6
  · rw [getD_set_ne false (by decide)]
    exact h7
end Go.Proofs.Ytbehbbmhkkidfaa

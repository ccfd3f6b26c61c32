import Derived.Test.YtncbmdbfdjhkeaaK20
import Derived.Test.YtncbmdbfdjhkeaaK16
import Derived.Test.YtncbmdbfdjhkeaaK22
import Derived.Deep.CutRange
import Derived.Lib.QuietBelow
import Derived.BigQuiet
/-
  class.named, up to its two sets: a region with boxes of its own, by an invariant. No condition.
-/
namespace Go.Proofs.Ytncbmdbfdjhkeaa
open Go.RowKit Go.Sort
def cUP : Nat → Nat := withS noS 65 90
def cLO : Nat → Nat := withS noS 97 122
def cDI : Nat → Nat := withS noS 48 57
def cAL : Nat → Nat := bothS (bothS cUP cLO) cDI
def cGR : Nat → Nat := withS noS 33 126
abbrev agV (A : Nat → Nat) : Value := .agg #[.int .u64 (A 0), .int .u64 (A 1), .int .u64 (A 2), .int .u64 (A 3)]
theorem flag_other {l : Array Bool} {i k : Nat} (h : i ≠ k) (hk : (l.setIfInBounds i true).getD k false = true) : l.getD k false = true := by rwa [getD_set_ne false h] at hk
theorem flag_now {l : Array Bool} {i : Nat} (h : i < l.size) : (l.setIfInBounds i true).getD i false = true := by simp [h]
structure NJ (ℓ : Array Bool) (wr : World) (x6 x7 x11 x12 x13 x14 x15 x16 : Value) (w : World) : Prop where
  c0 : ℓ.getD 0 false = true → x11 = agV cUP
  c1 : ℓ.getD 1 false = true → x12 = agV cLO
  c2 : ℓ.getD 2 false = true → x13 = agV (bothS cUP cLO)
  c3 : ℓ.getD 3 false = true → x14 = agV cDI
  c4 : ℓ.getD 4 false = true → x15 = agV cAL
  c5 : ℓ.getD 5 false = true → x16 = agV cGR
  bel : Below wr.heap.size wr w
  c6 : ℓ.getD 6 false = true → ∃ b, x6 = .pointer (some ⟨b, 0, none⟩) ∧ wr.heap.size ≤ b ∧ b < w.heap.size ∧ BoxF w b (if ℓ.getD 8 false = true then cAL else noS)
  c7 : ℓ.getD 7 false = true → ∃ b, x7 = .pointer (some ⟨b, 0, none⟩) ∧ wr.heap.size ≤ b ∧ b < w.heap.size ∧ BoxF w b (if ℓ.getD 9 false = true then cGR else noS)
  d8 : ℓ.getD 8 false = true → ℓ.getD 6 false = true
  d9 : ℓ.getD 9 false = true → ℓ.getD 7 false = true
  ne : ℓ.getD 6 false = true → ℓ.getD 7 false = true → x6 ≠ x7
theorem NJ.op0 {ℓ : Array Bool} {wr w w1 : World} {x6 x7 x11 x12 x13 x14 x15 x16 : Value} (j : NJ ℓ wr x6 x7 x11 x12 x13 x14 x15 x16 w) (hb : Below w.heap.size w w1) : NJ (ℓ.setIfInBounds 0 true) wr x6 x7 (agV cUP) x12 x13 x14 x15 x16 w1 := by
  refine ⟨fun _ => rfl, fun h => j.c1 (flag_other (i := 0) (by decide) h), fun h => j.c2 (flag_other (i := 0) (by decide) h), fun h => j.c3 (flag_other (i := 0) (by decide) h), fun h => j.c4 (flag_other (i := 0) (by decide) h), fun h => j.c5 (flag_other (i := 0) (by decide) h), j.bel.trans (hb.mono j.bel.size), fun h => ?_, fun h => ?_, fun h => ?_, fun h => ?_, fun h h' => j.ne (flag_other (by decide) h) (flag_other (by decide) h')⟩
  · obtain ⟨b, h1, h2, h3, h4⟩ := j.c6 (flag_other (by decide) h)
    refine ⟨b, h1, h2, Nat.lt_of_lt_of_le h3 hb.size, ?_⟩
    rw [getD_set_ne false (by decide)]
    exact h4.below hb h3
  · obtain ⟨b, h1, h2, h3, h4⟩ := j.c7 (flag_other (by decide) h)
    refine ⟨b, h1, h2, Nat.lt_of_lt_of_le h3 hb.size, ?_⟩
    rw [getD_set_ne false (by decide)]
    exact h4.below hb h3
  · rw [getD_set_ne false (by decide)]
    exact j.d8 (flag_other (by decide) h)
  · rw [getD_set_ne false (by decide)]
    exact j.d9 (flag_other (by decide) h)
theorem NJ.op1 {ℓ : Array Bool} {wr w w1 : World} {x6 x7 x11 x12 x13 x14 x15 x16 : Value} (j : NJ ℓ wr x6 x7 x11 x12 x13 x14 x15 x16 w) (hb : Below w.heap.size w w1) : NJ (ℓ.setIfInBounds 1 true) wr x6 x7 x11 (agV cLO) x13 x14 x15 x16 w1 := by
  refine ⟨fun h => j.c0 (flag_other (i := 1) (by decide) h), fun _ => rfl, fun h => j.c2 (flag_other (i := 1) (by decide) h), fun h => j.c3 (flag_other (i := 1) (by decide) h), fun h => j.c4 (flag_other (i := 1) (by decide) h), fun h => j.c5 (flag_other (i := 1) (by decide) h), j.bel.trans (hb.mono j.bel.size), fun h => ?_, fun h => ?_, fun h => ?_, fun h => ?_, fun h h' => j.ne (flag_other (by decide) h) (flag_other (by decide) h')⟩
  · obtain ⟨b, h1, h2, h3, h4⟩ := j.c6 (flag_other (by decide) h)
    refine ⟨b, h1, h2, Nat.lt_of_lt_of_le h3 hb.size, ?_⟩
    rw [getD_set_ne false (by decide)]
    exact h4.below hb h3
  · obtain ⟨b, h1, h2, h3, h4⟩ := j.c7 (flag_other (by decide) h)
    refine ⟨b, h1, h2, Nat.lt_of_lt_of_le h3 hb.size, ?_⟩
    rw [getD_set_ne false (by decide)]
    exact h4.below hb h3
  · rw [getD_set_ne false (by decide)]
    exact j.d8 (flag_other (by decide) h)
  · rw [getD_set_ne false (by decide)]
    exact j.d9 (flag_other (by decide) h)
theorem NJ.op2 {ℓ : Array Bool} {wr w w1 : World} {x6 x7 x11 x12 x13 x14 x15 x16 : Value} (j : NJ ℓ wr x6 x7 x11 x12 x13 x14 x15 x16 w) (hb : Below w.heap.size w w1) : NJ (ℓ.setIfInBounds 2 true) wr x6 x7 x11 x12 (agV (bothS cUP cLO)) x14 x15 x16 w1 := by
  refine ⟨fun h => j.c0 (flag_other (i := 2) (by decide) h), fun h => j.c1 (flag_other (i := 2) (by decide) h), fun _ => rfl, fun h => j.c3 (flag_other (i := 2) (by decide) h), fun h => j.c4 (flag_other (i := 2) (by decide) h), fun h => j.c5 (flag_other (i := 2) (by decide) h), j.bel.trans (hb.mono j.bel.size), fun h => ?_, fun h => ?_, fun h => ?_, fun h => ?_, fun h h' => j.ne (flag_other (by decide) h) (flag_other (by decide) h')⟩
  · obtain ⟨b, h1, h2, h3, h4⟩ := j.c6 (flag_other (by decide) h)
    refine ⟨b, h1, h2, Nat.lt_of_lt_of_le h3 hb.size, ?_⟩
    rw [getD_set_ne false (by decide)]
    exact h4.below hb h3
  · obtain ⟨b, h1, h2, h3, h4⟩ := j.c7 (flag_other (by decide) h)
    refine ⟨b, h1, h2, Nat.lt_of_lt_of_le h3 hb.size, ?_⟩
    rw [getD_set_ne false (by decide)]
    exact h4.below hb h3
  · rw [getD_set_ne false (by decide)]
    exact j.d8 (flag_other (by decide) h)
  · rw [getD_set_ne false (by decide)]
    exact j.d9 (flag_other (by decide) h)
theorem NJ.op3 {ℓ : Array Bool} {wr w w1 : World} {x6 x7 x11 x12 x13 x14 x15 x16 : Value} (j : NJ ℓ wr x6 x7 x11 x12 x13 x14 x15 x16 w) (hb : Below w.heap.size w w1) : NJ (ℓ.setIfInBounds 3 true) wr x6 x7 x11 x12 x13 (agV cDI) x15 x16 w1 := by
  refine ⟨fun h => j.c0 (flag_other (i := 3) (by decide) h), fun h => j.c1 (flag_other (i := 3) (by decide) h), fun h => j.c2 (flag_other (i := 3) (by decide) h), fun _ => rfl, fun h => j.c4 (flag_other (i := 3) (by decide) h), fun h => j.c5 (flag_other (i := 3) (by decide) h), j.bel.trans (hb.mono j.bel.size), fun h => ?_, fun h => ?_, fun h => ?_, fun h => ?_, fun h h' => j.ne (flag_other (by decide) h) (flag_other (by decide) h')⟩
  · obtain ⟨b, h1, h2, h3, h4⟩ := j.c6 (flag_other (by decide) h)
    refine ⟨b, h1, h2, Nat.lt_of_lt_of_le h3 hb.size, ?_⟩
    rw [getD_set_ne false (by decide)]
    exact h4.below hb h3
  · obtain ⟨b, h1, h2, h3, h4⟩ := j.c7 (flag_other (by decide) h)
    refine ⟨b, h1, h2, Nat.lt_of_lt_of_le h3 hb.size, ?_⟩
    rw [getD_set_ne false (by decide)]
    exact h4.below hb h3
  · rw [getD_set_ne false (by decide)]
    exact j.d8 (flag_other (by decide) h)
  · rw [getD_set_ne false (by decide)]
    exact j.d9 (flag_other (by decide) h)
theorem NJ.op4 {ℓ : Array Bool} {wr w w1 : World} {x6 x7 x11 x12 x13 x14 x15 x16 : Value} (j : NJ ℓ wr x6 x7 x11 x12 x13 x14 x15 x16 w) (hb : Below w.heap.size w w1) : NJ (ℓ.setIfInBounds 4 true) wr x6 x7 x11 x12 x13 x14 (agV cAL) x16 w1 := by
  refine ⟨fun h => j.c0 (flag_other (i := 4) (by decide) h), fun h => j.c1 (flag_other (i := 4) (by decide) h), fun h => j.c2 (flag_other (i := 4) (by decide) h), fun h => j.c3 (flag_other (i := 4) (by decide) h), fun _ => rfl, fun h => j.c5 (flag_other (i := 4) (by decide) h), j.bel.trans (hb.mono j.bel.size), fun h => ?_, fun h => ?_, fun h => ?_, fun h => ?_, fun h h' => j.ne (flag_other (by decide) h) (flag_other (by decide) h')⟩
  · obtain ⟨b, h1, h2, h3, h4⟩ := j.c6 (flag_other (by decide) h)
    refine ⟨b, h1, h2, Nat.lt_of_lt_of_le h3 hb.size, ?_⟩
    rw [getD_set_ne false (by decide)]
    exact h4.below hb h3
  · obtain ⟨b, h1, h2, h3, h4⟩ := j.c7 (flag_other (by decide) h)
    refine ⟨b, h1, h2, Nat.lt_of_lt_of_le h3 hb.size, ?_⟩
    rw [getD_set_ne false (by decide)]
    exact h4.below hb h3
  · rw [getD_set_ne false (by decide)]
    exact j.d8 (flag_other (by decide) h)
  · rw [getD_set_ne false (by decide)]
    exact j.d9 (flag_other (by decide) h)
theorem NJ.op5 {ℓ : Array Bool} {wr w w1 : World} {x6 x7 x11 x12 x13 x14 x15 x16 : Value} (j : NJ ℓ wr x6 x7 x11 x12 x13 x14 x15 x16 w) (hb : Below w.heap.size w w1) : NJ (ℓ.setIfInBounds 5 true) wr x6 x7 x11 x12 x13 x14 x15 (agV cGR) w1 := by
  refine ⟨fun h => j.c0 (flag_other (i := 5) (by decide) h), fun h => j.c1 (flag_other (i := 5) (by decide) h), fun h => j.c2 (flag_other (i := 5) (by decide) h), fun h => j.c3 (flag_other (i := 5) (by decide) h), fun h => j.c4 (flag_other (i := 5) (by decide) h), fun _ => rfl, j.bel.trans (hb.mono j.bel.size), fun h => ?_, fun h => ?_, fun h => ?_, fun h => ?_, fun h h' => j.ne (flag_other (by decide) h) (flag_other (by decide) h')⟩
  · obtain ⟨b, h1, h2, h3, h4⟩ := j.c6 (flag_other (by decide) h)
    refine ⟨b, h1, h2, Nat.lt_of_lt_of_le h3 hb.size, ?_⟩
    rw [getD_set_ne false (by decide)]
    exact h4.below hb h3
  · obtain ⟨b, h1, h2, h3, h4⟩ := j.c7 (flag_other (by decide) h)
    refine ⟨b, h1, h2, Nat.lt_of_lt_of_le h3 hb.size, ?_⟩
    rw [getD_set_ne false (by decide)]
    exact h4.below hb h3
  · rw [getD_set_ne false (by decide)]
    exact j.d8 (flag_other (by decide) h)
  · rw [getD_set_ne false (by decide)]
    exact j.d9 (flag_other (by decide) h)
theorem NJ.op6 {ℓ : Array Bool} {wr w : World} {x6 x7 x11 x12 x13 x14 x15 x16 : Value} (t : TypeId) (hs : 6 < ℓ.size) (hun : ℓ.getD 6 true = false) (j : NJ ℓ wr x6 x7 x11 x12 x13 x14 x15 x16 w) : NJ (ℓ.setIfInBounds 6 true) wr (.pointer (some ⟨w.heap.size, 0, none⟩)) x7 x11 x12 x13 x14 x15 x16 (w.alloc (.cells #[.int .u64 0, .int .u64 0, .int .u64 0, .int .u64 0] t)) := by
  refine ⟨fun h => j.c0 (flag_other (i := 6) (by decide) h), fun h => j.c1 (flag_other (i := 6) (by decide) h), fun h => j.c2 (flag_other (i := 6) (by decide) h), fun h => j.c3 (flag_other (i := 6) (by decide) h), fun h => j.c4 (flag_other (i := 6) (by decide) h), fun h => j.c5 (flag_other (i := 6) (by decide) h), j.bel.alloc j.bel.size _, fun h => ?_, fun h => ?_, fun h => ?_, fun h => ?_, fun h h' => ?_⟩
  · refine ⟨w.heap.size, rfl, j.bel.size, by simp, ?_⟩
    rw [getD_set_ne false (by decide)]
    have hn : ¬ ℓ.getD 8 false = true := fun h => by have := j.d8 h; rw [getD_both hun] at this; cases this
    rw [if_neg hn]
    exact BoxF.zero w _
  · obtain ⟨b, h1, h2, h3, h4⟩ := j.c7 (flag_other (by decide) h)
    refine ⟨b, h1, h2, by simp; omega, ?_⟩
    rw [getD_set_ne false (by decide)]
    exact h4.alloc h3 _
  · have h0 := j.d8 (flag_other (by decide) h)
    exact flag_now hs
  · have h0 := j.d9 (flag_other (by decide) h)
    rw [getD_set_ne false (by decide)]; exact h0
  · obtain ⟨b, h1, h2, h3, h4⟩ := j.c7 (flag_other (by decide) h')
    intro e
    rw [h1] at e
    injection e with e
    injection e with e
    injection e with e
    omega
theorem NJ.op7 {ℓ : Array Bool} {wr w : World} {x6 x7 x11 x12 x13 x14 x15 x16 : Value} (t : TypeId) (hs : 7 < ℓ.size) (hun : ℓ.getD 7 true = false) (j : NJ ℓ wr x6 x7 x11 x12 x13 x14 x15 x16 w) : NJ (ℓ.setIfInBounds 7 true) wr x6 (.pointer (some ⟨w.heap.size, 0, none⟩)) x11 x12 x13 x14 x15 x16 (w.alloc (.cells #[.int .u64 0, .int .u64 0, .int .u64 0, .int .u64 0] t)) := by
  refine ⟨fun h => j.c0 (flag_other (i := 7) (by decide) h), fun h => j.c1 (flag_other (i := 7) (by decide) h), fun h => j.c2 (flag_other (i := 7) (by decide) h), fun h => j.c3 (flag_other (i := 7) (by decide) h), fun h => j.c4 (flag_other (i := 7) (by decide) h), fun h => j.c5 (flag_other (i := 7) (by decide) h), j.bel.alloc j.bel.size _, fun h => ?_, fun h => ?_, fun h => ?_, fun h => ?_, fun h h' => ?_⟩
  · obtain ⟨b, h1, h2, h3, h4⟩ := j.c6 (flag_other (by decide) h)
    refine ⟨b, h1, h2, by simp; omega, ?_⟩
    rw [getD_set_ne false (by decide)]
    exact h4.alloc h3 _
  · refine ⟨w.heap.size, rfl, j.bel.size, by simp, ?_⟩
    rw [getD_set_ne false (by decide)]
    have hn : ¬ ℓ.getD 9 false = true := fun h => by have := j.d9 h; rw [getD_both hun] at this; cases this
    rw [if_neg hn]
    exact BoxF.zero w _
  · have h0 := j.d8 (flag_other (by decide) h)
    rw [getD_set_ne false (by decide)]; exact h0
  · have h0 := j.d9 (flag_other (by decide) h)
    exact flag_now hs
  · obtain ⟨b, h1, h2, h3, h4⟩ := j.c6 (flag_other (by decide) h)
    intro e
    rw [h1] at e
    injection e with e
    injection e with e
    injection e with e
    omega
theorem NJ.op8 {ℓ : Array Bool} {wr w : World} {b : Nat} {x6 x7 x11 x12 x13 x14 x15 x16 : Value} (hs : 8 < ℓ.size) (h6 : ℓ.getD 6 false = true) (h7 : ℓ.getD 7 false = true) (hx : x6 = .pointer (some ⟨b, 0, none⟩)) (j : NJ ℓ wr x6 x7 x11 x12 x13 x14 x15 x16 w) : NJ (ℓ.setIfInBounds 8 true) wr x6 x7 x11 x12 x13 x14 x15 x16 (st4 w b cAL) := by
  obtain ⟨b', e1, e2, e3, e4⟩ := j.c6 h6
  have eb : b' = b := by
    rw [hx] at e1
    injection e1 with e1
    injection e1 with e1
    injection e1 with e1
    exact e1.symm
  subst eb
  refine ⟨fun h => j.c0 (flag_other (i := 8) (by decide) h), fun h => j.c1 (flag_other (i := 8) (by decide) h), fun h => j.c2 (flag_other (i := 8) (by decide) h), fun h => j.c3 (flag_other (i := 8) (by decide) h), fun h => j.c4 (flag_other (i := 8) (by decide) h), fun h => j.c5 (flag_other (i := 8) (by decide) h), below_st4 j.bel e2 _, fun h => ?_, fun h => ?_, fun h => ?_, fun h => ?_, fun h h' => j.ne (flag_other (by decide) h) (flag_other (by decide) h')⟩
  · refine ⟨b', hx, e2, by rw [size_st4]; exact e3, ?_⟩
    rw [if_pos (flag_now hs)]
    exact e4.st _
  · obtain ⟨c, f1, f2, f3, f4⟩ := j.c7 h7
    refine ⟨c, f1, f2, by rw [size_st4]; exact f3, ?_⟩
    rw [getD_set_ne false (by decide)]
    refine f4.other (fun e => ?_) _
    subst e
    exact j.ne h6 h7 (hx.trans f1.symm)
  · rw [getD_set_ne false (by decide)]
    exact h6
  · rw [getD_set_ne false (by decide)]
    exact h7
theorem NJ.op9 {ℓ : Array Bool} {wr w : World} {b : Nat} {x6 x7 x11 x12 x13 x14 x15 x16 : Value} (hs : 9 < ℓ.size) (h7 : ℓ.getD 7 false = true) (h6 : ℓ.getD 6 false = true) (hx : x7 = .pointer (some ⟨b, 0, none⟩)) (j : NJ ℓ wr x6 x7 x11 x12 x13 x14 x15 x16 w) : NJ (ℓ.setIfInBounds 9 true) wr x6 x7 x11 x12 x13 x14 x15 x16 (st4 w b cGR) := by
  obtain ⟨b', e1, e2, e3, e4⟩ := j.c7 h7
  have eb : b' = b := by
    rw [hx] at e1
    injection e1 with e1
    injection e1 with e1
    injection e1 with e1
    exact e1.symm
  subst eb
  refine ⟨fun h => j.c0 (flag_other (i := 9) (by decide) h), fun h => j.c1 (flag_other (i := 9) (by decide) h), fun h => j.c2 (flag_other (i := 9) (by decide) h), fun h => j.c3 (flag_other (i := 9) (by decide) h), fun h => j.c4 (flag_other (i := 9) (by decide) h), fun h => j.c5 (flag_other (i := 9) (by decide) h), below_st4 j.bel e2 _, fun h => ?_, fun h => ?_, fun h => ?_, fun h => ?_, fun h h' => j.ne (flag_other (by decide) h) (flag_other (by decide) h')⟩
  · obtain ⟨c, f1, f2, f3, f4⟩ := j.c6 h6
    refine ⟨c, f1, f2, by rw [size_st4]; exact f3, ?_⟩
    rw [getD_set_ne false (by decide)]
    refine f4.other (fun e => ?_) _
    subst e
    exact j.ne h6 h7 (f1.trans hx.symm)
  · refine ⟨b', hx, e2, by rw [size_st4]; exact e3, ?_⟩
    rw [if_pos (flag_now hs)]
    exact e4.st _
  · rw [getD_set_ne false (by decide)]
    exact h6
  · rw [getD_set_ne false (by decide)]
    exact h7
open Go.RowKit Go.Sort
structure NamedW (w wr : World) (b3 : Nat) : Prop where
  h0 : BoxF wr w.heap.size noS
  h3 : BoxF wr b3 cUP
  h4 : BoxF wr (b3 + 1) cLO
  h5 : BoxF wr (b3 + 1 + 1) cDI
  bel : Below w.heap.size w wr
  lo : w.heap.size < b3
  size : b3 + 3 ≤ wr.heap.size
theorem NamedW.below {w wr w1 : World} {b3 : Nat} (h : NamedW w wr b3) (hb : Below wr.heap.size wr w1) : NamedW w w1 b3 := by
  have := h.lo
  have := h.size
  exact ⟨h.h0.below hb (by omega), h.h3.below hb (by omega), h.h4.below hb (by omega), h.h5.below hb (by omega), h.bel.trans (hb.mono h.bel.size), h.lo, Nat.le_trans h.size hb.size⟩
def NamedCut (w _wr : World) (b3 : Nat) (t6 t7 : Value) (wx : World) : Prop :=
  ∃ b6 b7, t6 = .pointer (some ⟨b6, 0, none⟩) ∧ t7 = .pointer (some ⟨b7, 0, none⟩) ∧ BoxF wx b6 cAL ∧ BoxF wx b7 cGR ∧ NamedW w wx b3 ∧ b6 < wx.heap.size ∧ b7 < wx.heap.size ∧ w.heap.size < b6 ∧ w.heap.size < b7
def nameS (l : List UInt8) : Nat → Nat :=
  if l = [97, 108, 112, 104, 97] then bothS cUP cLO else
  if l = [100, 105, 103, 105, 116] then cDI else
  if l = [97, 108, 110, 117, 109] then cAL else
  if l = [117, 112, 112, 101, 114] then cUP else
  if l = [108, 111, 119, 101, 114] then cLO else
  if l = [115, 112, 97, 99, 101] then withS (withS noS 9 13) 32 32 else
  if l = [98, 108, 97, 110, 107] then withS (withS noS 9 9) 32 32 else
  if l = [112, 117, 110, 99, 116] then notS (bothS (notS cGR) cAL) else
  if l = [112, 114, 105, 110, 116] then withS cGR 32 32 else
  if l = [103, 114, 97, 112, 104] then cGR else
  if l = [99, 110, 116, 114, 108] then withS (withS noS 0 31) 127 127 else
  if l = [120, 100, 105, 103, 105, 116] then withS (withS cDI 65 70) 97 102 else
  noS
structure PJ (ℓ : Array Bool) (wr : World) (b0 : Nat) (x45 x46 x47 x48 x49 : Value) (w : World) : Prop where
  c0 : ℓ.getD 0 false = true → x45 = agV cGR
  c1 : ℓ.getD 1 false = true → x46 = agV (notS cGR)
  c2 : ℓ.getD 2 false = true → x47 = agV cAL
  c3 : ℓ.getD 3 false = true → x48 = agV (bothS (notS cGR) cAL)
  c4 : ℓ.getD 4 false = true → x49 = agV (notS (bothS (notS cGR) cAL))
  d5 : ℓ.getD 5 false = true → ∀ k, k < 5 → ℓ.getD k false = true
  bel : ∃ w1, Below wr.heap.size wr w1 ∧ w = if ℓ.getD 5 false = true then st4 w1 b0 (notS (bothS (notS cGR) cAL)) else w1
theorem PJ.op0 {ℓ : Array Bool} {wr w w1 : World} {b0 : Nat} {x45 x46 x47 x48 x49 : Value} (j : PJ ℓ wr b0 x45 x46 x47 x48 x49 w) (h5 : ℓ.getD 5 false = false) (hb : Below w.heap.size w w1) : PJ (ℓ.setIfInBounds 0 true) wr b0 (agV cGR) x46 x47 x48 x49 w1 := by
  obtain ⟨w0, hw0, e⟩ := j.bel
  rw [if_neg (by rw [h5]; exact Bool.false_ne_true)] at e
  subst e
  exact ⟨fun _ => rfl, fun h => j.c1 (flag_other (i := 0) (by decide) h), fun h => j.c2 (flag_other (i := 0) (by decide) h), fun h => j.c3 (flag_other (i := 0) (by decide) h), fun h => j.c4 (flag_other (i := 0) (by decide) h), fun h => (by have := flag_other (i := 0) (by decide) h; rw [h5] at this; cases this), w1, hw0.trans (hb.mono hw0.size), by rw [getD_set_ne false (by decide), if_neg (by rw [h5]; exact Bool.false_ne_true)]⟩
theorem PJ.op1 {ℓ : Array Bool} {wr w w1 : World} {b0 : Nat} {x45 x46 x47 x48 x49 : Value} (j : PJ ℓ wr b0 x45 x46 x47 x48 x49 w) (h5 : ℓ.getD 5 false = false) (hb : Below w.heap.size w w1) : PJ (ℓ.setIfInBounds 1 true) wr b0 x45 (agV (notS cGR)) x47 x48 x49 w1 := by
  obtain ⟨w0, hw0, e⟩ := j.bel
  rw [if_neg (by rw [h5]; exact Bool.false_ne_true)] at e
  subst e
  exact ⟨fun h => j.c0 (flag_other (i := 1) (by decide) h), fun _ => rfl, fun h => j.c2 (flag_other (i := 1) (by decide) h), fun h => j.c3 (flag_other (i := 1) (by decide) h), fun h => j.c4 (flag_other (i := 1) (by decide) h), fun h => (by have := flag_other (i := 1) (by decide) h; rw [h5] at this; cases this), w1, hw0.trans (hb.mono hw0.size), by rw [getD_set_ne false (by decide), if_neg (by rw [h5]; exact Bool.false_ne_true)]⟩
theorem PJ.op2 {ℓ : Array Bool} {wr w w1 : World} {b0 : Nat} {x45 x46 x47 x48 x49 : Value} (j : PJ ℓ wr b0 x45 x46 x47 x48 x49 w) (h5 : ℓ.getD 5 false = false) (hb : Below w.heap.size w w1) : PJ (ℓ.setIfInBounds 2 true) wr b0 x45 x46 (agV cAL) x48 x49 w1 := by
  obtain ⟨w0, hw0, e⟩ := j.bel
  rw [if_neg (by rw [h5]; exact Bool.false_ne_true)] at e
  subst e
  exact ⟨fun h => j.c0 (flag_other (i := 2) (by decide) h), fun h => j.c1 (flag_other (i := 2) (by decide) h), fun _ => rfl, fun h => j.c3 (flag_other (i := 2) (by decide) h), fun h => j.c4 (flag_other (i := 2) (by decide) h), fun h => (by have := flag_other (i := 2) (by decide) h; rw [h5] at this; cases this), w1, hw0.trans (hb.mono hw0.size), by rw [getD_set_ne false (by decide), if_neg (by rw [h5]; exact Bool.false_ne_true)]⟩
theorem PJ.op3 {ℓ : Array Bool} {wr w w1 : World} {b0 : Nat} {x45 x46 x47 x48 x49 : Value} (j : PJ ℓ wr b0 x45 x46 x47 x48 x49 w) (h5 : ℓ.getD 5 false = false) (hb : Below w.heap.size w w1) : PJ (ℓ.setIfInBounds 3 true) wr b0 x45 x46 x47 (agV (bothS (notS cGR) cAL)) x49 w1 := by
  obtain ⟨w0, hw0, e⟩ := j.bel
  rw [if_neg (by rw [h5]; exact Bool.false_ne_true)] at e
  subst e
  exact ⟨fun h => j.c0 (flag_other (i := 3) (by decide) h), fun h => j.c1 (flag_other (i := 3) (by decide) h), fun h => j.c2 (flag_other (i := 3) (by decide) h), fun _ => rfl, fun h => j.c4 (flag_other (i := 3) (by decide) h), fun h => (by have := flag_other (i := 3) (by decide) h; rw [h5] at this; cases this), w1, hw0.trans (hb.mono hw0.size), by rw [getD_set_ne false (by decide), if_neg (by rw [h5]; exact Bool.false_ne_true)]⟩
theorem PJ.op4 {ℓ : Array Bool} {wr w w1 : World} {b0 : Nat} {x45 x46 x47 x48 x49 : Value} (j : PJ ℓ wr b0 x45 x46 x47 x48 x49 w) (h5 : ℓ.getD 5 false = false) (hb : Below w.heap.size w w1) : PJ (ℓ.setIfInBounds 4 true) wr b0 x45 x46 x47 x48 (agV (notS (bothS (notS cGR) cAL))) w1 := by
  obtain ⟨w0, hw0, e⟩ := j.bel
  rw [if_neg (by rw [h5]; exact Bool.false_ne_true)] at e
  subst e
  exact ⟨fun h => j.c0 (flag_other (i := 4) (by decide) h), fun h => j.c1 (flag_other (i := 4) (by decide) h), fun h => j.c2 (flag_other (i := 4) (by decide) h), fun h => j.c3 (flag_other (i := 4) (by decide) h), fun _ => rfl, fun h => (by have := flag_other (i := 4) (by decide) h; rw [h5] at this; cases this), w1, hw0.trans (hb.mono hw0.size), by rw [getD_set_ne false (by decide), if_neg (by rw [h5]; exact Bool.false_ne_true)]⟩
theorem PJ.op5 {ℓ : Array Bool} {wr w : World} {b0 : Nat} {x45 x46 x47 x48 x49 : Value} (hs : 5 < ℓ.size) (j : PJ ℓ wr b0 x45 x46 x47 x48 x49 w) (h5 : ℓ.getD 5 false = false) (hd : ∀ k, k < 5 → ℓ.getD k false = true) : PJ (ℓ.setIfInBounds 5 true) wr b0 x45 x46 x47 x48 x49 (st4 w b0 (notS (bothS (notS cGR) cAL))) := by
  obtain ⟨w0, hw0, e⟩ := j.bel
  rw [if_neg (by rw [h5]; exact Bool.false_ne_true)] at e
  subst e
  exact ⟨fun h => j.c0 (flag_other (i := 5) (by decide) h), fun h => j.c1 (flag_other (i := 5) (by decide) h), fun h => j.c2 (flag_other (i := 5) (by decide) h), fun h => j.c3 (flag_other (i := 5) (by decide) h), fun h => j.c4 (flag_other (i := 5) (by decide) h), fun _ k hk => getD_set_true (hd k hk), w, hw0, by rw [if_pos (flag_now hs)]⟩
theorem PJ.start (wr : World) (b0 n : Nat) (x45 x46 x47 x48 x49 : Value) : PJ (Array.replicate n false) wr b0 x45 x46 x47 x48 x49 wr.drew := by
  have h : ∀ k, (Array.replicate n false).getD k false = true → False := fun k h => by rw [getD_replicate_false] at h; cases h
  exact ⟨fun h' => (h _ h').elim, fun h' => (h _ h').elim, fun h' => (h _ h').elim, fun h' => (h _ h').elim, fun h' => (h _ h').elim, fun h' => (h _ h').elim, wr.drew, (Below.refl _ wr).drew, by rw [if_neg fun h' => h _ h']⟩
theorem PJ.five {ℓ : Array Bool} {wr w : World} {b0 i : Nat} {x45 x46 x47 x48 x49 : Value} (j : PJ ℓ wr b0 x45 x46 x47 x48 x49 w) (hi : i < 5) (hun : ℓ.getD i true = false) : ℓ.getD 5 false = false := by
  cases h : ℓ.getD 5 false with
  | false => rfl
  | true =>
    have := j.d5 h i hi
    rw [getD_both hun] at this
    cases this
theorem PJ.free {ℓ : Array Bool} {wr w : World} {b0 : Nat} {x45 x46 x47 x48 x49 : Value} (j : PJ ℓ wr b0 x45 x46 x47 x48 x49 w) (h5 : ℓ.getD 5 false = false) : Below wr.heap.size wr w := by
  obtain ⟨w0, hw0, e⟩ := j.bel
  rw [if_neg (by rw [h5]; exact Bool.false_ne_true)] at e
  subst e
  exact hw0
theorem dep_of {md : Region.Mode} {ops : Array Oper} {listed : Array Bool} {i k : Nat} (hi : i ∈ Region.ready md ops listed) (h : Region.waitsFor md ops i k = true) : listed.getD k false = true := by
  obtain ⟨_, o, ho, hall⟩ := mem_ready.1 hi
  obtain ⟨oj, hoj, e, he, hb, hon⟩ := Region.waitsFor_spec h
  have : oj = o := Option.some.inj (hoj.symm.trans ho)
  subst this
  rw [← hon]
  exact hall e he hb
theorem NJ.start (wr : World) (n : Nat) : NJ (Array.replicate n false) wr undef undef undef undef undef undef undef undef wr.drew := by
  have h : ∀ k, (Array.replicate n false).getD k false = true → False := fun k h => by rw [getD_replicate_false] at h; cases h
  exact ⟨fun h' => (h _ h').elim, fun h' => (h _ h').elim, fun h' => (h _ h').elim, fun h' => (h _ h').elim, fun h' => (h _ h').elim, fun h' => (h _ h').elim, (Below.refl _ wr).drew, fun h' => (h _ h').elim, fun h' => (h _ h').elim, fun h' => (h _ h').elim, fun h' => (h _ h').elim, fun h' => (h _ h').elim⟩
set_option maxRecDepth 100000 in
set_option maxHeartbeats 4000000 in
theorem named_is (name : ByteArray) (w : World) : Calls Try.prog 102 #[.string name] w fun e w' => e = .returned (setV (nameS name.toList)) ∧ Below w.heap.size w w' := by
  have S1 := Lib.hid fun (W : World) => span_is 65 90 (by decide) (by decide) W
  have S2 := Lib.hid fun (W : World) => span_is 97 122 (by decide) (by decide) W
  have S3 := Lib.hid fun (W : World) => span_is 48 57 (by decide) (by decide) W
  rw [show withS noS 65 90 = cUP from rfl] at S1
  rw [show withS noS 97 122 = cLO from rfl] at S2
  rw [show withS noS 48 57 = cDI from rfl] at S3
  simp only [setV, Int.cast_ofNat_Int] at S1 S2 S3
  go_enter Try.func102, Try.ntmps102
  go_wp2_with fail
  go_at_call 98
  refine (S1.out _).mono ?_
  rintro e w1 ⟨rfl, hw1⟩
  go_wp2_with fail
  go_at_call 98
  refine (S2.out _).mono ?_
  rintro e w2 ⟨rfl, hw2⟩
  go_wp2_with fail
  go_at_call 98
  refine (S3.out _).mono ?_
  rintro e w3 ⟨rfl, hw3⟩
  have h13 := hw1.trans ((hw2.mono hw1.size).trans (hw3.mono (Nat.le_trans hw1.size hw2.size)))
  obtain ⟨wr, hwr⟩ : ∃ wr, wr = ((w3.alloc (.cells #[.int .u64 (cUP 0), .int .u64 (cUP 1), .int .u64 (cUP 2), .int .u64 (cUP 3)] 34)).alloc (.cells #[.int .u64 (cLO 0), .int .u64 (cLO 1), .int .u64 (cLO 2), .int .u64 (cLO 3)] 34)).alloc (.cells #[.int .u64 (cDI 0), .int .u64 (cDI 1), .int .u64 (cDI 2), .int .u64 (cDI 3)] 34) := ⟨_, rfl⟩
  have l3 : w.heap.size < w3.heap.size := Nat.lt_of_lt_of_le (by simp) h13.size
  have hN : NamedW w wr w3.heap.size := by
    rw [hwr]
    refine ⟨?_, ?_, ?_, ?_, ?_, l3, by simp⟩
    · exact ((((BoxF.zero w _).below h13 (by simp)).alloc l3 _).alloc (by simp; omega) _).alloc (by simp; omega) _
    · exact ((BoxF.new w3 cUP _).alloc (by simp) _).alloc (by simp; omega) _
    · have := (BoxF.new (w3.alloc (.cells #[.int .u64 (cUP 0), .int .u64 (cUP 1), .int .u64 (cUP 2), .int .u64 (cUP 3)] 34)) cLO 34).alloc (by simp) (.cells #[.int .u64 (cDI 0), .int .u64 (cDI 1), .int .u64 (cDI 2), .int .u64 (cDI 3)] 34)
      rwa [World.size_alloc] at this
    · have := BoxF.new ((w3.alloc (.cells #[.int .u64 (cUP 0), .int .u64 (cUP 1), .int .u64 (cUP 2), .int .u64 (cUP 3)] 34)).alloc (.cells #[.int .u64 (cLO 0), .int .u64 (cLO 1), .int .u64 (cLO 2), .int .u64 (cLO 3)] 34)) cDI 34
      rwa [World.size_alloc, World.size_alloc] at this
    · exact ((((((Below.refl _ w).alloc (Nat.le_refl _) _).trans (h13.mono (by simp))).alloc (Nat.le_of_lt l3) _).alloc (by simp; omega) _).alloc (by simp; omega) _)
  have HN := Lib.hid hN
  clear hw1 hw2 hw3 h13 l3 hN
  go_upto_region 2 with fail
  rw [← hwr]
  clear hwr
  obtain ⟨b3, hb3⟩ : ∃ b3, b3 = w3.heap.size := ⟨_, rfl⟩
  rw [← hb3] at HN ⊢
  clear hb3
  go_cut [6, 7] from 8 to 66 (fun t6 t7 wx => NamedCut w wr b3 t6 t7 wx)
  case first =>
    have K1 := Lib.hid fun (W : World) => both_is cUP cLO (OkS.no.withS _ _) (OkS.no.withS _ _) W
    have K2 := Lib.hid fun (W : World) => both_is (bothS cUP cLO) cDI ((OkS.no.withS _ _).both (OkS.no.withS _ _)) (OkS.no.withS _ _) W
    have K3 := Lib.hid fun (W : World) => span_is 33 126 (by decide) (by decide) W
    rw [show withS noS 33 126 = cGR from rfl] at K3
    rw [show bothS (bothS cUP cLO) cDI = cAL from rfl] at K2
    simp only [setV, Int.cast_ofNat_Int] at K1 K2 K3
    refine wp_region_inv (fun listed a' w' => ∃ x6 x7 x11 x12 x13 x14 x15 x16 : Value, a' = { tmps := #[.string name, undef, .pointer (some ⟨w.heap.size, 0, none⟩), .pointer (some ⟨b3, 0, none⟩), .pointer (some ⟨b3 + 1, 0, none⟩), .pointer (some ⟨b3 + 1 + 1, 0, none⟩), x6, x7, agV cUP, agV cLO, agV cDI, x11, x12, x13, x14, x15, x16, undef, undef, undef, undef, undef, undef, undef, undef, undef, undef, undef, undef, undef, undef, undef, undef, undef, undef, undef, undef, undef, undef, undef, undef, undef, undef, undef, undef, undef, undef, undef, undef, undef, undef, undef, undef, undef, undef, undef, undef, undef, undef, undef, undef, undef, undef, undef, undef, undef, undef], defers := [] } ∧ NJ listed wr x6 x7 x11 x12 x13 x14 x15 x16 w') (by kernel_rfl) (by kernel_rfl) ?_ ?_ ?_
    · exact ⟨_, _, _, _, _, _, _, _, rfl, NJ.start wr _⟩
    · rintro listed a' w' i ⟨x6, x7, x11, x12, x13, x14, x15, x16, rfl, hj⟩ hs hi
      have h10 : i < 10 := by
        obtain ⟨_, o, ho, _⟩ := mem_ready.1 hi
        exact (Array.getElem?_eq_some_iff.1 ho).1
      rcases (show i = 0 ∨ i = 1 ∨ i = 2 ∨ i = 3 ∨ i = 4 ∨ i = 5 ∨ i = 6 ∨ i = 7 ∨ i = 8 ∨ i = 9 by omega) with rfl | rfl | rfl | rfl | rfl | rfl | rfl | rfl | rfl | rfl
      · obtain ⟨⟨k0, k1, k2, k3⟩, _⟩ := HN.out.h3.below hj.bel (by have := HN.out.lo; have := HN.out.size; omega)
        refine wpOp_step rfl (fun K hK => ?_)
        simp [go_sem, k0, k1, k2, k3]
        exact hK _ _ ⟨_, _, _, _, _, _, _, _, rfl, hj.op0 (Below.refl _ _)⟩
      · obtain ⟨⟨k0, k1, k2, k3⟩, _⟩ := HN.out.h4.below hj.bel (by have := HN.out.lo; have := HN.out.size; omega)
        refine wpOp_step rfl (fun K hK => ?_)
        simp [go_sem, k0, k1, k2, k3]
        exact hK _ _ ⟨_, _, _, _, _, _, _, _, rfl, hj.op1 (Below.refl _ _)⟩
      · have f0 := hj.c0 (dep_of hi (k := 0) (by kernel_rfl))
        have f1 := hj.c1 (dep_of hi (k := 1) (by kernel_rfl))
        subst f0 f1
        refine wpOp_step rfl (fun K hK => ?_)
        simp [go_sem, agV]
        refine (K1.out _).mono ?_
        rintro e w'' ⟨rfl, hb⟩
        exact hK _ _ ⟨_, _, _, _, _, _, _, _, rfl, hj.op2 hb⟩
      · obtain ⟨⟨k0, k1, k2, k3⟩, _⟩ := HN.out.h5.below hj.bel (by have := HN.out.lo; have := HN.out.size; omega)
        refine wpOp_step rfl (fun K hK => ?_)
        simp [go_sem, k0, k1, k2, k3]
        exact hK _ _ ⟨_, _, _, _, _, _, _, _, rfl, hj.op3 (Below.refl _ _)⟩
      · have f2 := hj.c2 (dep_of hi (k := 2) (by kernel_rfl))
        have f3 := hj.c3 (dep_of hi (k := 3) (by kernel_rfl))
        subst f2 f3
        refine wpOp_step rfl (fun K hK => ?_)
        simp [go_sem, agV]
        refine (K2.out _).mono ?_
        rintro e w'' ⟨rfl, hb⟩
        exact hK _ _ ⟨_, _, _, _, _, _, _, _, rfl, hj.op4 hb⟩
      · have f4 := hj.c4 (dep_of hi (k := 4) (by kernel_rfl))
        refine wpOp_step rfl (fun K hK => ?_)
        simp [go_sem, agV]
        refine (K3.out _).mono ?_
        rintro e w'' ⟨rfl, hb⟩
        exact hK _ _ ⟨_, _, _, _, _, _, _, _, rfl, hj.op5 hb⟩
      · refine wpOp_step rfl (fun K hK => ?_)
        simp [go_sem]
        exact hK _ _ ⟨_, _, _, _, _, _, _, _, rfl, hj.op6 _ (by rw [hs]; decide) (mem_ready.1 hi).1⟩
      · refine wpOp_step rfl (fun K hK => ?_)
        simp [go_sem]
        exact hK _ _ ⟨_, _, _, _, _, _, _, _, rfl, hj.op7 _ (by rw [hs]; decide) (mem_ready.1 hi).1⟩
      · have f4 := hj.c4 (dep_of hi (k := 4) (by kernel_rfl))
        have g6 := dep_of hi (k := 6) (by kernel_rfl)
        have g7 := dep_of hi (k := 7) (by kernel_rfl)
        obtain ⟨b, hx, hb1, hb2, hb3⟩ := hj.c6 g6
        have hj' := hj.op8 (by rw [hs]; decide) g6 g7 hx
        subst f4
        subst hx
        have hz : listed.getD 8 false = false := getD_both (mem_ready.1 hi).1
        rw [if_neg (by rw [hz]; exact Bool.false_ne_true)] at hb3
        obtain ⟨⟨k0, k1, k2, k3⟩, f0, f1, f2, f3⟩ := hb3
        refine wpOp_step rfl (fun K hK => ?_)
        simp [go_sem, agV, k0, k1, k2, k3, f0, f1, f2, f3]
        exact hK _ _ ⟨_, _, _, _, _, _, _, _, rfl, hj'⟩
      · have f5 := hj.c5 (dep_of hi (k := 5) (by kernel_rfl))
        have g6 := dep_of hi (k := 6) (by kernel_rfl)
        have g7 := dep_of hi (k := 7) (by kernel_rfl)
        obtain ⟨b, hx, hb1, hb2, hb3⟩ := hj.c7 g7
        have hj' := hj.op9 (by rw [hs]; decide) g7 g6 hx
        subst f5
        subst hx
        have hz : listed.getD 9 false = false := getD_both (mem_ready.1 hi).1
        rw [if_neg (by rw [hz]; exact Bool.false_ne_true)] at hb3
        obtain ⟨⟨k0, k1, k2, k3⟩, f0, f1, f2, f3⟩ := hb3
        refine wpOp_step rfl (fun K hK => ?_)
        simp [go_sem, agV, k0, k1, k2, k3, f0, f1, f2, f3]
        exact hK _ _ ⟨_, _, _, _, _, _, _, _, rfl, hj'⟩
    · rintro listed a' w' ⟨x6, x7, x11, x12, x13, x14, x15, x16, rfl, hj⟩ hall
      obtain ⟨b6, e6, l6, m6, n6⟩ := hj.c6 (hall 6 (by decide))
      obtain ⟨b7, e7, l7, m7, n7⟩ := hj.c7 (hall 7 (by decide))
      rw [if_pos (hall 8 (by decide))] at n6
      rw [if_pos (hall 9 (by decide))] at n7
      have hc : NamedCut w wr b3 x6 x7 w' := ⟨b6, b7, e6, e7, n6, n7, HN.out.below hj.bel, m6, m7, by have := HN.out.lo; have := HN.out.size; omega, by have := HN.out.lo; have := HN.out.size; omega⟩
      have HC := Lib.hid hc
      clear hj hc e6 e7 l6 l7 m6 m7 n6 n7 hall
      go_wp2_with fail
      go_meet
      case rel => exact HC.out
  obtain ⟨b6, b7, rfl, rfl, n6, n7, hN, m6, m7, q6, q7⟩ := hcut
  have HC := Lib.hid hN
  have HA6 := Lib.hid n6
  have HA7 := Lib.hid n7
  have HM := Lib.hid (And.intro (And.intro m6 m7) (And.intro q6 q7))
  obtain ⟨L, hL⟩ : ∃ L, L = name.toList := ⟨_, rfl⟩
  have hR : nameS name.toList = nameS L := by rw [hL]
  clear hN n6 n7 m6 m7 q6 q7 HN S1 S2 S3
  by_cases k0 : L = [97, 108, 112, 104, 97]
  · have HX := Lib.hid (show nameS name.toList = bothS cUP cLO by rw [hR, k0]; rfl)
    have e0 : (name.toList == [97, 108, 112, 104, 97]) = true := by rw [← hL, k0]; rfl
    clear hR hL k0
    obtain ⟨⟨z0, z1, z2, z3⟩, g0, g1, g2, g3⟩ := HC.out.h0
    obtain ⟨⟨p0, p1, p2, p3⟩, _⟩ := HC.out.h3
    obtain ⟨⟨q0, q1, q2, q3⟩, _⟩ := HC.out.h4
    have C0 := Lib.hid fun (W : World) => both_is cUP cLO (OkS.no.withS _ _) (OkS.no.withS _ _) W
    simp only [setV] at C0
    go_wp2_with fail
    go_at_call 94
    refine (C0.out _).mono ?_
    rintro e y0 ⟨rfl, hb0⟩
    have hy0 := hb0
    clear z0 z1 z2 z3 g0 g1 g2 g3
    have hz := HC.out.h0.below hy0 (by have := HC.out.lo; have := HC.out.size; omega)
    obtain ⟨⟨z0, z1, z2, z3⟩, g0, g1, g2, g3⟩ := hz
    have HBL := Lib.hid (HC.out.bel.trans (hy0.mono HC.out.bel.size))
    clear hb0 hy0
    go_wp2_with fail
    refine bodyPost_ret (v := setV (bothS cUP cLO)) (by simp [results, Try.results102, go_sem, setV, noS, z0, z1, z2, z3]) rfl ⟨by rw [HX.out], ?_⟩
    exact below_st4 HBL.out (Nat.le_refl _) (bothS cUP cLO)
  · skip
    by_cases k1 : L = [100, 105, 103, 105, 116]
    · have HX := Lib.hid (show nameS name.toList = cDI by rw [hR, k1]; rfl)
      have e0 : (name.toList == [97, 108, 112, 104, 97]) = false := by rw [← hL, k1]; rfl
      have e1 : (name.toList == [100, 105, 103, 105, 116]) = true := by rw [← hL, k1]; rfl
      clear hR hL k0 k1
      obtain ⟨⟨z0, z1, z2, z3⟩, g0, g1, g2, g3⟩ := HC.out.h0
      obtain ⟨⟨p0, p1, p2, p3⟩, _⟩ := HC.out.h5
      go_wp2_with fail
      refine bodyPost_ret (v := setV (cDI)) (by simp [results, Try.results102, go_sem, setV, noS, z0, z1, z2, z3]) rfl ⟨by rw [HX.out], ?_⟩
      exact below_st4 HC.out.bel (Nat.le_refl _) (cDI)
    · skip
      by_cases k2 : L = [97, 108, 110, 117, 109]
      · have HX := Lib.hid (show nameS name.toList = cAL by rw [hR, k2]; rfl)
        have e0 : (name.toList == [97, 108, 112, 104, 97]) = false := by rw [← hL, k2]; rfl
        have e1 : (name.toList == [100, 105, 103, 105, 116]) = false := by rw [← hL, k2]; rfl
        have e2 : (name.toList == [97, 108, 110, 117, 109]) = true := by rw [← hL, k2]; rfl
        clear hR hL k0 k1 k2
        obtain ⟨⟨z0, z1, z2, z3⟩, g0, g1, g2, g3⟩ := HC.out.h0
        obtain ⟨⟨p0, p1, p2, p3⟩, _⟩ := HA6.out
        go_wp2_with fail
        refine bodyPost_ret (v := setV (cAL)) (by simp [results, Try.results102, go_sem, setV, noS, z0, z1, z2, z3]) rfl ⟨by rw [HX.out], ?_⟩
        exact below_st4 HC.out.bel (Nat.le_refl _) (cAL)
      · skip
        by_cases k3 : L = [117, 112, 112, 101, 114]
        · have HX := Lib.hid (show nameS name.toList = cUP by rw [hR, k3]; rfl)
          have e0 : (name.toList == [97, 108, 112, 104, 97]) = false := by rw [← hL, k3]; rfl
          have e1 : (name.toList == [100, 105, 103, 105, 116]) = false := by rw [← hL, k3]; rfl
          have e2 : (name.toList == [97, 108, 110, 117, 109]) = false := by rw [← hL, k3]; rfl
          have e3 : (name.toList == [117, 112, 112, 101, 114]) = true := by rw [← hL, k3]; rfl
          clear hR hL k0 k1 k2 k3
          obtain ⟨⟨z0, z1, z2, z3⟩, g0, g1, g2, g3⟩ := HC.out.h0
          obtain ⟨⟨p0, p1, p2, p3⟩, _⟩ := HC.out.h3
          go_wp2_with fail
          refine bodyPost_ret (v := setV (cUP)) (by simp [results, Try.results102, go_sem, setV, noS, z0, z1, z2, z3]) rfl ⟨by rw [HX.out], ?_⟩
          exact below_st4 HC.out.bel (Nat.le_refl _) (cUP)
        · skip
          by_cases k4 : L = [108, 111, 119, 101, 114]
          · have HX := Lib.hid (show nameS name.toList = cLO by rw [hR, k4]; rfl)
            have e0 : (name.toList == [97, 108, 112, 104, 97]) = false := by rw [← hL, k4]; rfl
            have e1 : (name.toList == [100, 105, 103, 105, 116]) = false := by rw [← hL, k4]; rfl
            have e2 : (name.toList == [97, 108, 110, 117, 109]) = false := by rw [← hL, k4]; rfl
            have e3 : (name.toList == [117, 112, 112, 101, 114]) = false := by rw [← hL, k4]; rfl
            have e4 : (name.toList == [108, 111, 119, 101, 114]) = true := by rw [← hL, k4]; rfl
            clear hR hL k0 k1 k2 k3 k4
            obtain ⟨⟨z0, z1, z2, z3⟩, g0, g1, g2, g3⟩ := HC.out.h0
            obtain ⟨⟨p0, p1, p2, p3⟩, _⟩ := HC.out.h4
            go_wp2_with fail
            refine bodyPost_ret (v := setV (cLO)) (by simp [results, Try.results102, go_sem, setV, noS, z0, z1, z2, z3]) rfl ⟨by rw [HX.out], ?_⟩
            exact below_st4 HC.out.bel (Nat.le_refl _) (cLO)
          · skip
            by_cases k5 : L = [115, 112, 97, 99, 101]
            · have HX := Lib.hid (show nameS name.toList = withS (withS noS 9 13) 32 32 by rw [hR, k5]; rfl)
              have e0 : (name.toList == [97, 108, 112, 104, 97]) = false := by rw [← hL, k5]; rfl
              have e1 : (name.toList == [100, 105, 103, 105, 116]) = false := by rw [← hL, k5]; rfl
              have e2 : (name.toList == [97, 108, 110, 117, 109]) = false := by rw [← hL, k5]; rfl
              have e3 : (name.toList == [117, 112, 112, 101, 114]) = false := by rw [← hL, k5]; rfl
              have e4 : (name.toList == [108, 111, 119, 101, 114]) = false := by rw [← hL, k5]; rfl
              have e5 : (name.toList == [115, 112, 97, 99, 101]) = true := by rw [← hL, k5]; rfl
              clear hR hL k0 k1 k2 k3 k4 k5
              obtain ⟨⟨z0, z1, z2, z3⟩, g0, g1, g2, g3⟩ := HC.out.h0
              have C0 := Lib.hid fun (W : World) => span_is 9 13 (by decide) (by decide) W
              simp only [setV, Int.cast_ofNat_Int] at C0
              have C1 := Lib.hid fun (W : World) => with_is (withS noS 9 13) 32 32 (OkS.no.withS _ _) (by decide) (by decide) W
              simp only [setV, Int.cast_ofNat_Int] at C1
              go_wp2_with fail
              go_at_call 98
              refine (C0.out _).mono ?_
              rintro e y0 ⟨rfl, hb0⟩
              have hy0 := hb0
              go_wp2_with fail
              go_at_call 92
              refine (C1.out _).mono ?_
              rintro e y1 ⟨rfl, hb1⟩
              have hy1 := hy0.trans (hb1.mono hy0.size)
              clear z0 z1 z2 z3 g0 g1 g2 g3
              have hz := HC.out.h0.below hy1 (by have := HC.out.lo; have := HC.out.size; omega)
              obtain ⟨⟨z0, z1, z2, z3⟩, g0, g1, g2, g3⟩ := hz
              have HBL := Lib.hid (HC.out.bel.trans (hy1.mono HC.out.bel.size))
              clear hb0 hb1 hy0 hy1
              go_wp2_with fail
              refine bodyPost_ret (v := setV (withS (withS noS 9 13) 32 32)) (by simp [results, Try.results102, go_sem, setV, noS, z0, z1, z2, z3]) rfl ⟨by rw [HX.out], ?_⟩
              exact below_st4 HBL.out (Nat.le_refl _) (withS (withS noS 9 13) 32 32)
            · skip
              by_cases k6 : L = [98, 108, 97, 110, 107]
              · have HX := Lib.hid (show nameS name.toList = withS (withS noS 9 9) 32 32 by rw [hR, k6]; rfl)
                have e0 : (name.toList == [97, 108, 112, 104, 97]) = false := by rw [← hL, k6]; rfl
                have e1 : (name.toList == [100, 105, 103, 105, 116]) = false := by rw [← hL, k6]; rfl
                have e2 : (name.toList == [97, 108, 110, 117, 109]) = false := by rw [← hL, k6]; rfl
                have e3 : (name.toList == [117, 112, 112, 101, 114]) = false := by rw [← hL, k6]; rfl
                have e4 : (name.toList == [108, 111, 119, 101, 114]) = false := by rw [← hL, k6]; rfl
                have e5 : (name.toList == [115, 112, 97, 99, 101]) = false := by rw [← hL, k6]; rfl
                have e6 : (name.toList == [98, 108, 97, 110, 107]) = true := by rw [← hL, k6]; rfl
                clear hR hL k0 k1 k2 k3 k4 k5 k6
                obtain ⟨⟨z0, z1, z2, z3⟩, g0, g1, g2, g3⟩ := HC.out.h0
                have C0 := Lib.hid fun (W : World) => span_is 9 9 (by decide) (by decide) W
                simp only [setV, Int.cast_ofNat_Int] at C0
                have C1 := Lib.hid fun (W : World) => with_is (withS noS 9 9) 32 32 (OkS.no.withS _ _) (by decide) (by decide) W
                simp only [setV, Int.cast_ofNat_Int] at C1
                go_wp2_with fail
                go_at_call 98
                refine (C0.out _).mono ?_
                rintro e y0 ⟨rfl, hb0⟩
                have hy0 := hb0
                go_wp2_with fail
                go_at_call 92
                refine (C1.out _).mono ?_
                rintro e y1 ⟨rfl, hb1⟩
                have hy1 := hy0.trans (hb1.mono hy0.size)
                clear z0 z1 z2 z3 g0 g1 g2 g3
                have hz := HC.out.h0.below hy1 (by have := HC.out.lo; have := HC.out.size; omega)
                obtain ⟨⟨z0, z1, z2, z3⟩, g0, g1, g2, g3⟩ := hz
                have HBL := Lib.hid (HC.out.bel.trans (hy1.mono HC.out.bel.size))
                clear hb0 hb1 hy0 hy1
                go_wp2_with fail
                refine bodyPost_ret (v := setV (withS (withS noS 9 9) 32 32)) (by simp [results, Try.results102, go_sem, setV, noS, z0, z1, z2, z3]) rfl ⟨by rw [HX.out], ?_⟩
                exact below_st4 HBL.out (Nat.le_refl _) (withS (withS noS 9 9) 32 32)
              · skip
                by_cases k7 : L = [112, 117, 110, 99, 116]
                · have HX := Lib.hid (show nameS name.toList = notS (bothS (notS cGR) cAL) by rw [hR, k7]; rfl)
                  have e0 : (name.toList == [97, 108, 112, 104, 97]) = false := by rw [← hL, k7]; rfl
                  have e1 : (name.toList == [100, 105, 103, 105, 116]) = false := by rw [← hL, k7]; rfl
                  have e2 : (name.toList == [97, 108, 110, 117, 109]) = false := by rw [← hL, k7]; rfl
                  have e3 : (name.toList == [117, 112, 112, 101, 114]) = false := by rw [← hL, k7]; rfl
                  have e4 : (name.toList == [108, 111, 119, 101, 114]) = false := by rw [← hL, k7]; rfl
                  have e5 : (name.toList == [115, 112, 97, 99, 101]) = false := by rw [← hL, k7]; rfl
                  have e6 : (name.toList == [98, 108, 97, 110, 107]) = false := by rw [← hL, k7]; rfl
                  have e7 : (name.toList == [112, 117, 110, 99, 116]) = true := by rw [← hL, k7]; rfl
                  clear hR hL k0 k1 k2 k3 k4 k5 k6 k7
                  obtain ⟨⟨z0, z1, z2, z3⟩, g0, g1, g2, g3⟩ := HC.out.h0
                  have K1 := Lib.hid fun (W : World) => not_is cGR (OkS.no.withS _ _) W
                  have K2 := Lib.hid fun (W : World) => both_is (notS cGR) cAL (OkS.no.withS _ _).not (((OkS.no.withS _ _).both (OkS.no.withS _ _)).both (OkS.no.withS _ _)) W
                  have K3 := Lib.hid fun (W : World) => not_is (bothS (notS cGR) cAL) ((OkS.no.withS _ _).not.both (((OkS.no.withS _ _).both (OkS.no.withS _ _)).both (OkS.no.withS _ _))) W
                  simp only [setV] at K1 K2 K3
                  clear z0 z1 z2 z3 g0 g1 g2 g3
                  go_upto_region 19 with fail
                  refine wp_region_inv (fun listed a' w' => ∃ u8 u9 u10 u11 u12 u13 u14 u15 u16 u17 u18 u19 u20 u21 u22 u23 u24 u25 u26 u27 u28 u29 u30 u31 u32 u33 u34 u35 u36 u37 u38 u39 u40 u41 u42 u43 u44 x45 x46 x47 x48 x49 u50 u51 u52 u53 u54 u55 u56 u57 u58 u59 u60 u61 u62 u63 u64 u65 u66 : Value, a' = { tmps := #[.string name, undef, .pointer (some ⟨w.heap.size, 0, none⟩), .pointer (some ⟨b3, 0, none⟩), .pointer (some ⟨b3 + 1, 0, none⟩), .pointer (some ⟨b3 + 1 + 1, 0, none⟩), .pointer (some ⟨b6, 0, none⟩), .pointer (some ⟨b7, 0, none⟩), u8, u9, u10, u11, u12, u13, u14, u15, u16, u17, u18, u19, u20, u21, u22, u23, u24, u25, u26, u27, u28, u29, u30, u31, u32, u33, u34, u35, u36, u37, u38, u39, u40, u41, u42, u43, u44, x45, x46, x47, x48, x49, u50, u51, u52, u53, u54, u55, u56, u57, u58, u59, u60, u61, u62, u63, u64, u65, u66], defers := [] } ∧ PJ listed wc w.heap.size x45 x46 x47 x48 x49 w') (by kernel_rfl) (by kernel_rfl) ?_ ?_ ?_
                  · exact ⟨_, _, _, _, _, _, _, _, _, _, _, _, _, _, _, _, _, _, _, _, _, _, _, _, _, _, _, _, _, _, _, _, _, _, _, _, _, _, _, _, _, _, _, _, _, _, _, _, _, _, _, _, _, _, _, _, _, _, _, rfl, PJ.start wc _ _ _ _ _ _ _⟩
                  · rintro listed a' w' i ⟨u8, u9, u10, u11, u12, u13, u14, u15, u16, u17, u18, u19, u20, u21, u22, u23, u24, u25, u26, u27, u28, u29, u30, u31, u32, u33, u34, u35, u36, u37, u38, u39, u40, u41, u42, u43, u44, x45, x46, x47, x48, x49, u50, u51, u52, u53, u54, u55, u56, u57, u58, u59, u60, u61, u62, u63, u64, u65, u66, rfl, hj⟩ hs hi
                    have h6 : i < 6 := by
                      obtain ⟨_, o, ho, _⟩ := mem_ready.1 hi
                      exact (Array.getElem?_eq_some_iff.1 ho).1
                    rcases (show i = 0 ∨ i = 1 ∨ i = 2 ∨ i = 3 ∨ i = 4 ∨ i = 5 by omega) with rfl | rfl | rfl | rfl | rfl | rfl
                    · have hw := hj.free (hj.five (i := 0) (by decide) (mem_ready.1 hi).1)
                      obtain ⟨⟨k0, k1, k2, k3⟩, _⟩ := HA7.out.below hw HM.out.1.2
                      refine wpOp_step rfl (fun K hK => ?_)
                      simp [go_sem, k0, k1, k2, k3]
                      exact hK _ _ ⟨_, _, _, _, _, _, _, _, _, _, _, _, _, _, _, _, _, _, _, _, _, _, _, _, _, _, _, _, _, _, _, _, _, _, _, _, _, _, _, _, _, _, _, _, _, _, _, _, _, _, _, _, _, _, _, _, _, _, _, rfl, hj.op0 (hj.five (by decide) (mem_ready.1 hi).1) (Below.refl _ _)⟩
                    · have h5 := hj.five (by decide) (mem_ready.1 hi).1
                      have f0 := hj.c0 (dep_of hi (k := 0) (by kernel_rfl))
                      subst f0
                      refine wpOp_step rfl (fun K hK => ?_)
                      simp [go_sem, agV]
                      refine (K1.out _).mono ?_
                      rintro e w'' ⟨rfl, hb⟩
                      exact hK _ _ ⟨_, _, _, _, _, _, _, _, _, _, _, _, _, _, _, _, _, _, _, _, _, _, _, _, _, _, _, _, _, _, _, _, _, _, _, _, _, _, _, _, _, _, _, _, _, _, _, _, _, _, _, _, _, _, _, _, _, _, _, rfl, hj.op1 h5 hb⟩
                    · have hw := hj.free (hj.five (i := 2) (by decide) (mem_ready.1 hi).1)
                      obtain ⟨⟨k0, k1, k2, k3⟩, _⟩ := HA6.out.below hw HM.out.1.1
                      refine wpOp_step rfl (fun K hK => ?_)
                      simp [go_sem, k0, k1, k2, k3]
                      exact hK _ _ ⟨_, _, _, _, _, _, _, _, _, _, _, _, _, _, _, _, _, _, _, _, _, _, _, _, _, _, _, _, _, _, _, _, _, _, _, _, _, _, _, _, _, _, _, _, _, _, _, _, _, _, _, _, _, _, _, _, _, _, _, rfl, hj.op2 (hj.five (by decide) (mem_ready.1 hi).1) (Below.refl _ _)⟩
                    · have h5 := hj.five (by decide) (mem_ready.1 hi).1
                      have f1 := hj.c1 (dep_of hi (k := 1) (by kernel_rfl))
                      have f2 := hj.c2 (dep_of hi (k := 2) (by kernel_rfl))
                      subst f1 f2
                      refine wpOp_step rfl (fun K hK => ?_)
                      simp [go_sem, agV]
                      refine (K2.out _).mono ?_
                      rintro e w'' ⟨rfl, hb⟩
                      exact hK _ _ ⟨_, _, _, _, _, _, _, _, _, _, _, _, _, _, _, _, _, _, _, _, _, _, _, _, _, _, _, _, _, _, _, _, _, _, _, _, _, _, _, _, _, _, _, _, _, _, _, _, _, _, _, _, _, _, _, _, _, _, _, rfl, hj.op3 h5 hb⟩
                    · have h5 := hj.five (by decide) (mem_ready.1 hi).1
                      have f3 := hj.c3 (dep_of hi (k := 3) (by kernel_rfl))
                      subst f3
                      refine wpOp_step rfl (fun K hK => ?_)
                      simp [go_sem, agV]
                      refine (K3.out _).mono ?_
                      rintro e w'' ⟨rfl, hb⟩
                      exact hK _ _ ⟨_, _, _, _, _, _, _, _, _, _, _, _, _, _, _, _, _, _, _, _, _, _, _, _, _, _, _, _, _, _, _, _, _, _, _, _, _, _, _, _, _, _, _, _, _, _, _, _, _, _, _, _, _, _, _, _, _, _, _, rfl, hj.op4 h5 hb⟩
                    · have h5 : listed.getD 5 false = false := getD_both (mem_ready.1 hi).1
                      have f4 := hj.c4 (dep_of hi (k := 4) (by kernel_rfl))
                      subst f4
                      have hj' := hj.op5 (by rw [hs]; decide) h5 (fun k hk => by rcases (show k = 0 ∨ k = 1 ∨ k = 2 ∨ k = 3 ∨ k = 4 by omega) with rfl | rfl | rfl | rfl | rfl <;> exact dep_of hi (by kernel_rfl))
                      obtain ⟨⟨k0, k1, k2, k3⟩, f0, f1, f2, f3⟩ := HC.out.h0.below (hj.free h5) (by have := HC.out.lo; have := HC.out.size; omega)
                      refine wpOp_step rfl (fun K hK => ?_)
                      simp [go_sem, agV, k0, k1, k2, k3, f0, f1, f2, f3]
                      exact hK _ _ ⟨_, _, _, _, _, _, _, _, _, _, _, _, _, _, _, _, _, _, _, _, _, _, _, _, _, _, _, _, _, _, _, _, _, _, _, _, _, _, _, _, _, _, _, _, _, _, _, _, _, _, _, _, _, _, _, _, _, _, _, rfl, hj'⟩
                  · rintro listed a' w' ⟨u8, u9, u10, u11, u12, u13, u14, u15, u16, u17, u18, u19, u20, u21, u22, u23, u24, u25, u26, u27, u28, u29, u30, u31, u32, u33, u34, u35, u36, u37, u38, u39, u40, u41, u42, u43, u44, x45, x46, x47, x48, x49, u50, u51, u52, u53, u54, u55, u56, u57, u58, u59, u60, u61, u62, u63, u64, u65, u66, rfl, hj⟩ hall
                    obtain ⟨w1, hb, e⟩ := hj.bel
                    rw [if_pos (hall 5 (by decide))] at e
                    obtain ⟨⟨k0, k1, k2, k3⟩, _⟩ := HC.out.h0.below hb (by have := HC.out.lo; have := HC.out.size; omega)
                    have HW := Lib.hid (below_st4 (HC.out.bel.trans (hb.mono HC.out.bel.size)) (Nat.le_refl _) (notS (bothS (notS cGR) cAL)))
                    have HE := Lib.hid e
                    have hst := (HC.out.h0.below hb (by have := HC.out.lo; have := HC.out.size; omega)).st (notS (bothS (notS cGR) cAL))
                    rw [← HE.out] at hst HW
                    obtain ⟨⟨z0, z1, z2, z3⟩, _⟩ := hst
                    clear hb e k0 k1 k2 k3 hj hall
                    go_wp2_with fail
                    refine bodyPost_ret (v := setV (notS (bothS (notS cGR) cAL))) (by simp [results, Try.results102, go_sem, setV, z0, z1, z2, z3]) rfl ⟨by rw [HX.out], ?_⟩
                    exact HW.out
                · skip
                  by_cases k8 : L = [112, 114, 105, 110, 116]
                  · have HX := Lib.hid (show nameS name.toList = withS cGR 32 32 by rw [hR, k8]; rfl)
                    have e0 : (name.toList == [97, 108, 112, 104, 97]) = false := by rw [← hL, k8]; rfl
                    have e1 : (name.toList == [100, 105, 103, 105, 116]) = false := by rw [← hL, k8]; rfl
                    have e2 : (name.toList == [97, 108, 110, 117, 109]) = false := by rw [← hL, k8]; rfl
                    have e3 : (name.toList == [117, 112, 112, 101, 114]) = false := by rw [← hL, k8]; rfl
                    have e4 : (name.toList == [108, 111, 119, 101, 114]) = false := by rw [← hL, k8]; rfl
                    have e5 : (name.toList == [115, 112, 97, 99, 101]) = false := by rw [← hL, k8]; rfl
                    have e6 : (name.toList == [98, 108, 97, 110, 107]) = false := by rw [← hL, k8]; rfl
                    have e7 : (name.toList == [112, 117, 110, 99, 116]) = false := by rw [← hL, k8]; rfl
                    have e8 : (name.toList == [112, 114, 105, 110, 116]) = true := by rw [← hL, k8]; rfl
                    clear hR hL k0 k1 k2 k3 k4 k5 k6 k7 k8
                    obtain ⟨⟨z0, z1, z2, z3⟩, g0, g1, g2, g3⟩ := HC.out.h0
                    obtain ⟨⟨p0, p1, p2, p3⟩, _⟩ := HA7.out
                    have C0 := Lib.hid fun (W : World) => with_is cGR 32 32 (OkS.no.withS _ _) (by decide) (by decide) W
                    simp only [setV, Int.cast_ofNat_Int] at C0
                    go_wp2_with fail
                    go_at_call 92
                    refine (C0.out _).mono ?_
                    rintro e y0 ⟨rfl, hb0⟩
                    have hy0 := hb0
                    clear z0 z1 z2 z3 g0 g1 g2 g3
                    have hz := HC.out.h0.below hy0 (by have := HC.out.lo; have := HC.out.size; omega)
                    obtain ⟨⟨z0, z1, z2, z3⟩, g0, g1, g2, g3⟩ := hz
                    have HBL := Lib.hid (HC.out.bel.trans (hy0.mono HC.out.bel.size))
                    clear hb0 hy0
                    go_wp2_with fail
                    refine bodyPost_ret (v := setV (withS cGR 32 32)) (by simp [results, Try.results102, go_sem, setV, noS, z0, z1, z2, z3]) rfl ⟨by rw [HX.out], ?_⟩
                    exact below_st4 HBL.out (Nat.le_refl _) (withS cGR 32 32)
                  · skip
                    by_cases k9 : L = [103, 114, 97, 112, 104]
                    · have HX := Lib.hid (show nameS name.toList = cGR by rw [hR, k9]; rfl)
                      have e0 : (name.toList == [97, 108, 112, 104, 97]) = false := by rw [← hL, k9]; rfl
                      have e1 : (name.toList == [100, 105, 103, 105, 116]) = false := by rw [← hL, k9]; rfl
                      have e2 : (name.toList == [97, 108, 110, 117, 109]) = false := by rw [← hL, k9]; rfl
                      have e3 : (name.toList == [117, 112, 112, 101, 114]) = false := by rw [← hL, k9]; rfl
                      have e4 : (name.toList == [108, 111, 119, 101, 114]) = false := by rw [← hL, k9]; rfl
                      have e5 : (name.toList == [115, 112, 97, 99, 101]) = false := by rw [← hL, k9]; rfl
                      have e6 : (name.toList == [98, 108, 97, 110, 107]) = false := by rw [← hL, k9]; rfl
                      have e7 : (name.toList == [112, 117, 110, 99, 116]) = false := by rw [← hL, k9]; rfl
                      have e8 : (name.toList == [112, 114, 105, 110, 116]) = false := by rw [← hL, k9]; rfl
                      have e9 : (name.toList == [103, 114, 97, 112, 104]) = true := by rw [← hL, k9]; rfl
                      clear hR hL k0 k1 k2 k3 k4 k5 k6 k7 k8 k9
                      obtain ⟨⟨z0, z1, z2, z3⟩, g0, g1, g2, g3⟩ := HC.out.h0
                      obtain ⟨⟨p0, p1, p2, p3⟩, _⟩ := HA7.out
                      go_wp2_with fail
                      refine bodyPost_ret (v := setV (cGR)) (by simp [results, Try.results102, go_sem, setV, noS, z0, z1, z2, z3]) rfl ⟨by rw [HX.out], ?_⟩
                      exact below_st4 HC.out.bel (Nat.le_refl _) (cGR)
                    · skip
                      by_cases k10 : L = [99, 110, 116, 114, 108]
                      · have HX := Lib.hid (show nameS name.toList = withS (withS noS 0 31) 127 127 by rw [hR, k10]; rfl)
                        have e0 : (name.toList == [97, 108, 112, 104, 97]) = false := by rw [← hL, k10]; rfl
                        have e1 : (name.toList == [100, 105, 103, 105, 116]) = false := by rw [← hL, k10]; rfl
                        have e2 : (name.toList == [97, 108, 110, 117, 109]) = false := by rw [← hL, k10]; rfl
                        have e3 : (name.toList == [117, 112, 112, 101, 114]) = false := by rw [← hL, k10]; rfl
                        have e4 : (name.toList == [108, 111, 119, 101, 114]) = false := by rw [← hL, k10]; rfl
                        have e5 : (name.toList == [115, 112, 97, 99, 101]) = false := by rw [← hL, k10]; rfl
                        have e6 : (name.toList == [98, 108, 97, 110, 107]) = false := by rw [← hL, k10]; rfl
                        have e7 : (name.toList == [112, 117, 110, 99, 116]) = false := by rw [← hL, k10]; rfl
                        have e8 : (name.toList == [112, 114, 105, 110, 116]) = false := by rw [← hL, k10]; rfl
                        have e9 : (name.toList == [103, 114, 97, 112, 104]) = false := by rw [← hL, k10]; rfl
                        have e10 : (name.toList == [99, 110, 116, 114, 108]) = true := by rw [← hL, k10]; rfl
                        clear hR hL k0 k1 k2 k3 k4 k5 k6 k7 k8 k9 k10
                        obtain ⟨⟨z0, z1, z2, z3⟩, g0, g1, g2, g3⟩ := HC.out.h0
                        have C0 := Lib.hid fun (W : World) => span_is 0 31 (by decide) (by decide) W
                        simp only [setV, Int.cast_ofNat_Int] at C0
                        have C1 := Lib.hid fun (W : World) => with_is (withS noS 0 31) 127 127 (OkS.no.withS _ _) (by decide) (by decide) W
                        simp only [setV, Int.cast_ofNat_Int] at C1
                        go_wp2_with fail
                        go_at_call 98
                        refine (C0.out _).mono ?_
                        rintro e y0 ⟨rfl, hb0⟩
                        have hy0 := hb0
                        go_wp2_with fail
                        go_at_call 92
                        refine (C1.out _).mono ?_
                        rintro e y1 ⟨rfl, hb1⟩
                        have hy1 := hy0.trans (hb1.mono hy0.size)
                        clear z0 z1 z2 z3 g0 g1 g2 g3
                        have hz := HC.out.h0.below hy1 (by have := HC.out.lo; have := HC.out.size; omega)
                        obtain ⟨⟨z0, z1, z2, z3⟩, g0, g1, g2, g3⟩ := hz
                        have HBL := Lib.hid (HC.out.bel.trans (hy1.mono HC.out.bel.size))
                        clear hb0 hb1 hy0 hy1
                        go_wp2_with fail
                        refine bodyPost_ret (v := setV (withS (withS noS 0 31) 127 127)) (by simp [results, Try.results102, go_sem, setV, noS, z0, z1, z2, z3]) rfl ⟨by rw [HX.out], ?_⟩
                        exact below_st4 HBL.out (Nat.le_refl _) (withS (withS noS 0 31) 127 127)
                      · skip
                        by_cases k11 : L = [120, 100, 105, 103, 105, 116]
                        · have HX := Lib.hid (show nameS name.toList = withS (withS cDI 65 70) 97 102 by rw [hR, k11]; rfl)
                          have e0 : (name.toList == [97, 108, 112, 104, 97]) = false := by rw [← hL, k11]; rfl
                          have e1 : (name.toList == [100, 105, 103, 105, 116]) = false := by rw [← hL, k11]; rfl
                          have e2 : (name.toList == [97, 108, 110, 117, 109]) = false := by rw [← hL, k11]; rfl
                          have e3 : (name.toList == [117, 112, 112, 101, 114]) = false := by rw [← hL, k11]; rfl
                          have e4 : (name.toList == [108, 111, 119, 101, 114]) = false := by rw [← hL, k11]; rfl
                          have e5 : (name.toList == [115, 112, 97, 99, 101]) = false := by rw [← hL, k11]; rfl
                          have e6 : (name.toList == [98, 108, 97, 110, 107]) = false := by rw [← hL, k11]; rfl
                          have e7 : (name.toList == [112, 117, 110, 99, 116]) = false := by rw [← hL, k11]; rfl
                          have e8 : (name.toList == [112, 114, 105, 110, 116]) = false := by rw [← hL, k11]; rfl
                          have e9 : (name.toList == [103, 114, 97, 112, 104]) = false := by rw [← hL, k11]; rfl
                          have e10 : (name.toList == [99, 110, 116, 114, 108]) = false := by rw [← hL, k11]; rfl
                          have e11 : (name.toList == [120, 100, 105, 103, 105, 116]) = true := by rw [← hL, k11]; rfl
                          clear hR hL k0 k1 k2 k3 k4 k5 k6 k7 k8 k9 k10 k11
                          obtain ⟨⟨z0, z1, z2, z3⟩, g0, g1, g2, g3⟩ := HC.out.h0
                          obtain ⟨⟨p0, p1, p2, p3⟩, _⟩ := HC.out.h5
                          have C0 := Lib.hid fun (W : World) => with_is cDI 65 70 (OkS.no.withS _ _) (by decide) (by decide) W
                          simp only [setV, Int.cast_ofNat_Int] at C0
                          have C1 := Lib.hid fun (W : World) => with_is (withS cDI 65 70) 97 102 ((OkS.no.withS _ _).withS _ _) (by decide) (by decide) W
                          simp only [setV, Int.cast_ofNat_Int] at C1
                          go_wp2_with fail
                          go_at_call 92
                          refine (C0.out _).mono ?_
                          rintro e y0 ⟨rfl, hb0⟩
                          have hy0 := hb0
                          go_wp2_with fail
                          go_at_call 92
                          refine (C1.out _).mono ?_
                          rintro e y1 ⟨rfl, hb1⟩
                          have hy1 := hy0.trans (hb1.mono hy0.size)
                          clear z0 z1 z2 z3 g0 g1 g2 g3
                          have hz := HC.out.h0.below hy1 (by have := HC.out.lo; have := HC.out.size; omega)
                          obtain ⟨⟨z0, z1, z2, z3⟩, g0, g1, g2, g3⟩ := hz
                          have HBL := Lib.hid (HC.out.bel.trans (hy1.mono HC.out.bel.size))
                          clear hb0 hb1 hy0 hy1
                          go_wp2_with fail
                          refine bodyPost_ret (v := setV (withS (withS cDI 65 70) 97 102)) (by simp [results, Try.results102, go_sem, setV, noS, z0, z1, z2, z3]) rfl ⟨by rw [HX.out], ?_⟩
                          exact below_st4 HBL.out (Nat.le_refl _) (withS (withS cDI 65 70) 97 102)
                        · skip
                          have HX := Lib.hid (show nameS name.toList = noS by rw [hR]; unfold nameS; rw [if_neg k0, if_neg k1, if_neg k2, if_neg k3, if_neg k4, if_neg k5, if_neg k6, if_neg k7, if_neg k8, if_neg k9, if_neg k10, if_neg k11])
                          have e0 : (name.toList == [97, 108, 112, 104, 97]) = false := by rw [← hL, beq_eq_false_iff_ne]; exact k0
                          have e1 : (name.toList == [100, 105, 103, 105, 116]) = false := by rw [← hL, beq_eq_false_iff_ne]; exact k1
                          have e2 : (name.toList == [97, 108, 110, 117, 109]) = false := by rw [← hL, beq_eq_false_iff_ne]; exact k2
                          have e3 : (name.toList == [117, 112, 112, 101, 114]) = false := by rw [← hL, beq_eq_false_iff_ne]; exact k3
                          have e4 : (name.toList == [108, 111, 119, 101, 114]) = false := by rw [← hL, beq_eq_false_iff_ne]; exact k4
                          have e5 : (name.toList == [115, 112, 97, 99, 101]) = false := by rw [← hL, beq_eq_false_iff_ne]; exact k5
                          have e6 : (name.toList == [98, 108, 97, 110, 107]) = false := by rw [← hL, beq_eq_false_iff_ne]; exact k6
                          have e7 : (name.toList == [112, 117, 110, 99, 116]) = false := by rw [← hL, beq_eq_false_iff_ne]; exact k7
                          have e8 : (name.toList == [112, 114, 105, 110, 116]) = false := by rw [← hL, beq_eq_false_iff_ne]; exact k8
                          have e9 : (name.toList == [103, 114, 97, 112, 104]) = false := by rw [← hL, beq_eq_false_iff_ne]; exact k9
                          have e10 : (name.toList == [99, 110, 116, 114, 108]) = false := by rw [← hL, beq_eq_false_iff_ne]; exact k10
                          have e11 : (name.toList == [120, 100, 105, 103, 105, 116]) = false := by rw [← hL, beq_eq_false_iff_ne]; exact k11
                          clear hR hL k0 k1 k2 k3 k4 k5 k6 k7 k8 k9 k10 k11
                          obtain ⟨⟨z0, z1, z2, z3⟩, g0, g1, g2, g3⟩ := HC.out.h0
                          go_wp2_with fail
                          refine bodyPost_ret (v := setV (noS)) (by simp [results, Try.results102, go_sem, setV, noS, z0, z1, z2, z3]) rfl ⟨by rw [HX.out], ?_⟩
                          exact below_st4 HC.out.bel (Nat.le_refl _) (noS)
open Go.RowKit
def isName (l : List UInt8) : Bool := l == [97, 108, 112, 104, 97] || l == [100, 105, 103, 105, 116] || l == [97, 108, 110, 117, 109] || l == [117, 112, 112, 101, 114] || l == [108, 111, 119, 101, 114] || l == [115, 112, 97, 99, 101] || l == [98, 108, 97, 110, 107] || l == [112, 117, 110, 99, 116] || l == [112, 114, 105, 110, 116] || l == [103, 114, 97, 112, 104] || l == [99, 110, 116, 114, 108] || l == [120, 100, 105, 103, 105, 116]
open Go.RowKit
theorem named_none (l : List UInt8) (h : isName l = false) : nameS l = noS := by
  unfold isName at h
  simp only [Bool.or_eq_false_iff, beq_eq_false_iff_ne, ne_eq, and_assoc] at h
  obtain ⟨h0, h1, h2, h3, h4, h5, h6, h7, h8, h9, h10, h11⟩ := h
  unfold nameS
  rw [if_neg h0, if_neg h1, if_neg h2, if_neg h3, if_neg h4, if_neg h5, if_neg h6, if_neg h7, if_neg h8, if_neg h9, if_neg h10, if_neg h11]
theorem names_all {p : List UInt8 → Prop} (hp : p [97, 108, 112, 104, 97] ∧ p [100, 105, 103, 105, 116] ∧ p [97, 108, 110, 117, 109] ∧ p [117, 112, 112, 101, 114] ∧ p [108, 111, 119, 101, 114] ∧ p [115, 112, 97, 99, 101] ∧ p [98, 108, 97, 110, 107] ∧ p [112, 117, 110, 99, 116] ∧ p [112, 114, 105, 110, 116] ∧ p [103, 114, 97, 112, 104] ∧ p [99, 110, 116, 114, 108] ∧ p [120, 100, 105, 103, 105, 116]) (l : List UInt8) (h : isName l = true) : p l := by
  obtain ⟨h0, h1, h2, h3, h4, h5, h6, h7, h8, h9, h10, h11⟩ := hp
  unfold isName at h
  simp only [Bool.or_eq_true, beq_iff_eq, or_assoc] at h
  rcases h with rfl | rfl | rfl | rfl | rfl | rfl | rfl | rfl | rfl | rfl | rfl | rfl <;> assumption
theorem ite_ok {p : Prop} [Decidable p] {a b : Nat → Nat} (ha : OkS a) (hb : OkS b) : OkS (if p then a else b) := by
  by_cases h : p
  · rw [if_pos h]; exact ha
  · rw [if_neg h]; exact hb
theorem nameS_ok (l : List UInt8) : OkS (nameS l) := by
  have u : OkS cUP := OkS.no.withS _ _
  have lo : OkS cLO := OkS.no.withS _ _
  have di : OkS cDI := OkS.no.withS _ _
  have al : OkS cAL := (u.both lo).both di
  have gr : OkS cGR := OkS.no.withS _ _
  unfold nameS
  exact ite_ok (u.both lo) (ite_ok di (ite_ok al (ite_ok u (ite_ok lo (ite_ok ((OkS.no.withS _ _).withS _ _) (ite_ok ((OkS.no.withS _ _).withS _ _) (ite_ok (gr.not.both al).not (ite_ok (gr.withS _ _) (ite_ok gr (ite_ok ((OkS.no.withS _ _).withS _ _) (ite_ok ((di.withS _ _).withS _ _) OkS.no)))))))))))
theorem named_some (l : List UInt8) : sameS (nameS l) noS = !isName l := by
  cases h : isName l with
  | false => rw [named_none l h]; rfl
  | true =>
    refine names_all (p := fun l => sameS (nameS l) noS = !true) ?_ l h
    refine ⟨?_, ?_, ?_, ?_, ?_, ?_, ?_, ?_, ?_, ?_, ?_, ?_⟩ <;> kernel_rfl
set_option maxRecDepth 100000 in
theorem named2_is (name : ByteArray) (w : World) : Calls Try.prog 100 #[.string name] w fun e w' => e = .returned (.tuple #[setV (nameS name.toList), .bool (isName name.toList)]) ∧ Below w.heap.size w w' := by
  have HNM := Lib.hid (named_is name)
  have hsm := named_some name.toList
  generalize nameS name.toList = S at *
  generalize isName name.toList = b at *
  unfold setV at *
  go_enter Try.func100, Try.ntmps100
  go_wp2_with fail
  go_at_call 102
  refine (HNM.out _).mono ?_
  rintro e w1 ⟨rfl, hb1⟩
  have hz := ((BoxF.zero w 34).below hb1 (by simp))
  have l1 : w.heap.size < w1.heap.size := Nat.lt_of_lt_of_le (by simp) hb1.size
  have HB1 := Lib.hid (((Below.refl _ w).alloc (Nat.le_refl _) _).trans (hb1.mono (by simp)))
  clear hb1
  go_upto_region 2 with fail
  obtain ⟨wr, hwr⟩ : ∃ wr, wr = w1.alloc (.cells #[.int .u64 (S 0), .int .u64 (S 1), .int .u64 (S 2), .int .u64 (S 3)] 34) := ⟨_, rfl⟩
  rw [← hwr]
  have hzr : BoxF wr w.heap.size noS := by rw [hwr]; exact hz.alloc l1 _
  have hxs : BoxF wr w1.heap.size S := by rw [hwr]; exact BoxF.new w1 S _
  have HBR := Lib.hid (show Below w.heap.size w wr by rw [hwr]; exact HB1.out.alloc HB1.out.size _)
  have hne : w.heap.size ≠ w1.heap.size := by omega
  clear hwr hz l1
  obtain ⟨⟨z0, z1, z2, z3⟩, g0, g1, g2, g3⟩ := hzr
  obtain ⟨⟨s0, s1, s2, s3⟩, f0, f1, f2, f3⟩ := hxs
  have EW := eq_words S noS
  rw [hsm] at EW
  simp only [noS, Int.cast_ofNat_Int] at EW
  go_region
  clear EW
  go_wp2_with fail
  refine bodyPost_ret (v := .tuple #[setV S, .bool b]) (by simp [results, Try.results100, go_sem, setV, z0, z1, z2, z3]) rfl ⟨rfl, ?_⟩
  exact (below_st4 HBR.out (Nat.le_refl _) S).drew
open Go.RowKit
def MaxAt (w : World) : Prop := ∃ m, w.cell? ⟨0, 0, none⟩ = some (.int .i64 m)
theorem MaxAt.below {w w' : World} (h : MaxAt w) (hb : Below w.heap.size w w') : MaxAt w' := by
  obtain ⟨m, h⟩ := h
  exact ⟨m, (hb.cell (block_lt_of_cell h)).trans h⟩
def nmd (l : List UInt8) : (Nat → Nat) × Nat := if (Lib.cut l [58, 93]).2.2 = true ∧ isName (Lib.cut l [58, 93]).1 = true then (nameS (Lib.cut l [58, 93]).1, (Lib.cut l [58, 93]).1.length + 4) else (noS, 0)
set_option maxRecDepth 100000 in
set_option maxHeartbeats 1000000 in
theorem named_item (s : ByteArray) (hs : s.size ≤ 2147483648) (w : World) (hM : MaxAt w) : Calls Try.prog 96 #[.string s] w fun e w' => e = .returned (.tuple #[setV (nmd s.data.toList).1, .int .i64 ((nmd s.data.toList).2 : Int)]) ∧ Below w.heap.size w w' := by
  have hb0 : Below w.heap.size w (w.alloc (.cells #[.int .u64 0, .int .u64 0, .int .u64 0, .int .u64 0] 34)) := (Below.refl _ w).alloc (Nat.le_refl _) _
  obtain ⟨m, hm⟩ := hM.below hb0
  have HC := Lib.hid (Try.strings_Cut s ⟨#[58, 93]⟩ m _ (by omega) hm)
  have hlen : (Lib.cut s.data.toList [58, 93]).1.length ≤ s.size := by
    unfold Lib.cut
    split
    · simp; omega
    · simp
  obtain ⟨c, hc⟩ : ∃ c, c = Lib.cut s.data.toList [58, 93] := ⟨_, rfl⟩
  have hnm : nmd s.data.toList = if c.2.2 = true ∧ isName c.1 = true then (nameS c.1, c.1.length + 4) else (noS, 0) := by unfold nmd; rw [← hc]
  simp only at HC
  rw [← hc] at HC hlen
  rw [hnm]
  clear hc hnm hm
  obtain ⟨L, R, b⟩ := c
  dsimp only at HC hlen ⊢
  obtain ⟨N, hN⟩ : ∃ N : ByteArray, N = ⟨L.toArray⟩ := ⟨_, rfl⟩
  have hNl : N.toList = L := by rw [hN, ByteArray.toList_eq]
  have hNs : N.size = L.length := by rw [hN]; simp [ByteArray.size]
  rw [← hN] at HC
  obtain ⟨R2, hR2⟩ : ∃ R2 : ByteArray, R2 = ⟨R.toArray⟩ := ⟨_, rfl⟩
  rw [← hR2] at HC
  have HNM := Lib.hid (named2_is N)
  rw [hNl] at HNM
  obtain ⟨S, hS⟩ : ∃ S, S = nameS L := ⟨_, rfl⟩
  rw [← hS] at HNM ⊢
  obtain ⟨k, hk⟩ : ∃ k, k = isName L := ⟨_, rfl⟩
  rw [← hk] at HNM ⊢
  have HB0 := Lib.hid hb0
  have hw1 : wrap64 (2 + (N.size : Int)) = 2 + (N.size : Int) := IntWalk.wrap64_in _ (by omega)
  have hw2 : wrap64 (2 + (N.size : Int) + 2) = 2 + (N.size : Int) + 2 := IntWalk.wrap64_in _ (by omega)
  have HNS := Lib.hid hNs
  obtain ⟨r, hr⟩ : ∃ r : (Nat → Nat) × Nat, r = if b = true ∧ k = true then (S, L.length + 4) else (noS, 0) := ⟨_, rfl⟩
  rw [← hr]
  have HR := Lib.hid hr
  clear hlen hN hNl hNs hR2 hS hk hb0 hs hr
  unfold setV at HNM
  go_enter Try.func96, Try.ntmps96
  go_wp2_with fail
  go_at_call 60
  refine HC.out.mono ?_
  rintro e wz ⟨rfl, n, rfl⟩
  go_wp2_with fail
  go_at_call 100
  refine (HNM.out _).mono ?_
  rintro e w1 ⟨rfl, hw1⟩
  have hb1 : Below (w.alloc (.cells #[.int .u64 0, .int .u64 0, .int .u64 0, .int .u64 0] 34)).heap.size (w.alloc (.cells #[.int .u64 0, .int .u64 0, .int .u64 0, .int .u64 0] 34)) w1 := (below_drewNc (m := n) (Below.refl _ _)).trans hw1
  have hz := (BoxF.zero w 34).below hb1 (by simp)
  have l1 : w.heap.size < w1.heap.size := Nat.lt_of_lt_of_le (by simp) hb1.size
  have HB1 := Lib.hid (HB0.out.trans (hb1.mono (by simp)))
  have hbs := (Below.refl w1.heap.size w1).alloc (Nat.le_refl _) (.cells #[.int .u64 (S 0), .int .u64 (S 1), .int .u64 (S 2), .int .u64 (S 3)] 34)
  obtain ⟨⟨z0, z1, z2, z3⟩, g0, g1, g2, g3⟩ := hz
  have HBS := Lib.hid hbs
  clear hw1 hb1 hbs hM HC HNM
  have HFIN := Lib.hid fun (A : Nat → Nat) => below_st4 (HB1.out.trans (HBS.out.mono HB1.out.size)) (Nat.le_refl _) A
  have HFI2 := Lib.hid fun (A : Nat → Nat) => (below_st4 HB1.out (Nat.le_refl _) A).alloc (by rw [size_st4]; exact HB1.out.size) (.cells #[.int .u64 (S 0), .int .u64 (S 1), .int .u64 (S 2), .int .u64 (S 3)] 34)
  cases b with
  | false =>
    have HV := Lib.hid (show r = (noS, 0) by rw [HR.out, if_neg fun h => Bool.false_ne_true h.1])
    go_wp2_with fail
    refine bodyPost_ret (v := .tuple #[setV noS, .int .i64 0]) (by simp [results, Try.results96, go_sem, setV, noS, z0, z1, z2, z3, l1]) rfl ⟨by rw [HV.out]; rfl, ?_⟩
    exact HFI2.out noS
  | true =>
    cases k with
    | false =>
      have HV := Lib.hid (show r = (noS, 0) by rw [HR.out, if_neg fun h => Bool.false_ne_true h.2])
      go_wp2_with fail
      refine bodyPost_ret (v := .tuple #[setV noS, .int .i64 0]) (by simp [results, Try.results96, go_sem, setV, noS, z0, z1, z2, z3, l1]) rfl ⟨by rw [HV.out]; rfl, ?_⟩
      exact HFI2.out noS
    | true =>
      have HV := Lib.hid (show r = (S, L.length + 4) by rw [HR.out, if_pos ⟨rfl, rfl⟩])
      go_wp2_with fail
      refine bodyPost_ret (v := .tuple #[setV S, .int .i64 ((L.length + 4 : Nat) : Int)]) (by simp [results, Try.results96, go_sem, setV, z0, z1, z2, z3, l1, hw1, hw2, ← HNS.out]; omega) rfl ⟨by rw [HV.out], ?_⟩
      exact HFI2.out S
def itm (l : List UInt8) : (Nat → Nat) × Nat := if [91, 58].isPrefixOf l = true then nmd (l.drop 2) else itmP l
set_option maxRecDepth 100000 in
set_option maxHeartbeats 1000000 in
theorem item_any (s : ByteArray) (hs : s.size ≤ 2147483648) : ItemC MaxAt s (itm s.data.toList) := by
  by_cases hp : pre ⟨#[91, 58]⟩ s = true
  · intro w hM
    have hi : itm s.data.toList = nmd (s.data.toList.drop 2) := by
      unfold itm
      rw [if_pos (by unfold pre at hp; exact hp)]
    rw [hi]
    have hb0 : Below w.heap.size w (w.alloc (.cells #[.int .u64 0, .int .u64 0, .int .u64 0, .int .u64 0] 34)) := (Below.refl _ w).alloc (Nat.le_refl _) _
    have HCP := Lib.hid (cut_prefix s ⟨#[91, 58]⟩)
    rw [hp] at HCP
    simp only [if_true] at HCP
    have HNI := Lib.hid (named_item (s.extract 2 s.size) (by simp; omega) _ (hM.below hb0))
    rw [show (s.extract 2 s.size).data.toList = s.data.toList.drop 2 from drop_of s 2] at HNI
    obtain ⟨S, hS⟩ : ∃ S, S = (nmd (s.data.toList.drop 2)).1 := ⟨_, rfl⟩
    obtain ⟨n, hn⟩ : ∃ n, n = (nmd (s.data.toList.drop 2)).2 := ⟨_, rfl⟩
    rw [← hS, ← hn] at HNI ⊢
    have HB0 := Lib.hid hb0
    clear hS hn hi hp hs hM hb0
    unfold setV at HNI ⊢
    have e2 : (⟨#[91, 58]⟩ : ByteArray).size = 2 := rfl
    rw [e2] at HCP
    clear e2
    go_enter Try.func93, Try.ntmps93
    go_wp2_with fail
    go_at_call 95
    refine (HCP.out _).mono ?_
    rintro e0 w0 ⟨rfl, rfl⟩
    go_wp2_with fail
    go_at_call 96
    refine HNI.out.mono ?_
    rintro e w1 ⟨rfl, hw1⟩
    have hz := (BoxF.zero w 34).below hw1 (by simp)
    have HB1 := Lib.hid (HB0.out.trans (hw1.mono (by simp)))
    obtain ⟨⟨z0, z1, z2, z3⟩, g0, g1, g2, g3⟩ := hz
    clear hw1
    go_wp2_with fail
    refine bodyPost_ret (v := .tuple #[setV S, .int .i64 (n : Int)]) (by simp [results, Try.results93, go_sem, setV, z0, z1, z2, z3]) rfl ⟨rfl, ?_⟩
    exact below_st4 HB1.out (Nat.le_refl _) S
  · have h := item_is MaxAt s (by simpa using hp)
    have hi : itm s.data.toList = itmP s.data.toList := by
      unfold itm
      rw [if_neg (by unfold pre at hp; exact hp)]
    rw [hi]
    exact h
open Go.RowKit
inductive BrkP (s : ByteArray) : Nat → (Nat → Nat) → Option ((Nat → Nat) × Nat) → Prop
  | bad {n : Nat} {S : Nat → Nat} : n ≤ s.size → (itm (s.data.toList.drop n)).2 = 0 → BrkP s n S none
  | last {n : Nat} {S : Nat → Nat} {r : List UInt8} : 0 < (itm (s.data.toList.drop n)).2 → n + (itm (s.data.toList.drop n)).2 ≤ s.size → s.data.toList.drop (n + (itm (s.data.toList.drop n)).2) = 93 :: r → BrkP s n S (some (bothS S (itm (s.data.toList.drop n)).1, n + (itm (s.data.toList.drop n)).2))
  | more {n : Nat} {S : Nat → Nat} {x : Option ((Nat → Nat) × Nat)} : 0 < (itm (s.data.toList.drop n)).2 → n + (itm (s.data.toList.drop n)).2 ≤ s.size → (∀ r, s.data.toList.drop (n + (itm (s.data.toList.drop n)).2) ≠ 93 :: r) → BrkP s (n + (itm (s.data.toList.drop n)).2) (bothS S (itm (s.data.toList.drop n)).1) x → BrkP s n S x
theorem itm_ok (l : List UInt8) : OkS (itm l).1 := by
  unfold itm
  split
  · unfold nmd
    split
    · exact nameS_ok _
    · exact OkS.no
  · unfold itmP
    split
    · exact OkS.no
    · split
      · exact OkS.no.withS _ _
      · exact OkS.no
    · split
      · exact OkS.no.withS _ _
      · exact OkS.no
    · split
      · split
        · split
          · exact OkS.no.withS _ _
          · exact OkS.no
        · exact OkS.no.withS _ _
      · exact OkS.no
theorem cut_len (l : List UInt8) (h : (Lib.cut l [58, 93]).2.2 = true) : (Lib.cut l [58, 93]).1.length + 2 ≤ l.length := by
  unfold Lib.cut at h ⊢
  split
  · rename_i hi
    have := Lib.index_room l [58, 93] hi
    simp only [List.length_cons, List.length_nil] at this
    simp only [List.length_take]
    omega
  · rename_i hi
    rw [if_neg hi] at h
    cases h
theorem itm_le (l : List UInt8) : (itm l).2 ≤ l.length := by
  unfold itm
  split
  · rename_i hp
    unfold nmd
    split
    · rename_i h
      have := cut_len _ h.1
      obtain ⟨r, hr⟩ := List.isPrefixOf_iff_prefix.1 hp
      rw [← hr] at this ⊢
      simp only [List.cons_append, List.nil_append, List.drop_succ_cons, List.drop_zero, List.length_cons] at this ⊢
      omega
    · exact Nat.zero_le _
  · match l with
    | [] => exact Nat.zero_le _
    | [c] =>
      simp only [itmP]
      split
      · exact Nat.le_refl _
      · exact Nat.zero_le _
    | [c, d] =>
      simp only [itmP]
      split
      · exact Nat.le_succ _
      · exact Nat.zero_le _
    | c :: d :: e :: q =>
      simp only [itmP]
      split
      · split
        · split
          · simp
          · exact Nat.zero_le _
        · simp
      · exact Nat.zero_le _
theorem brkP_ex (s : ByteArray) : ∀ (d n : Nat) (S : Nat → Nat), n ≤ s.size → s.size - n ≤ d → ∃ r, BrkP s n S r := by
  intro d
  induction d with
  | zero =>
    intro n S hn hd
    have h := itm_le (s.data.toList.drop n)
    have hl : (s.data.toList.drop n).length = s.size - n := by rw [List.length_drop]; simp
    exact ⟨none, .bad hn (by omega)⟩
  | succ d ih =>
    intro n S hn hd
    have h := itm_le (s.data.toList.drop n)
    have hl : (s.data.toList.drop n).length = s.size - n := by rw [List.length_drop]; simp
    rcases Nat.eq_zero_or_pos (itm (s.data.toList.drop n)).2 with h0 | h0
    · exact ⟨none, .bad hn h0⟩
    · have hle : n + (itm (s.data.toList.drop n)).2 ≤ s.size := by omega
      by_cases hc : ∃ r, s.data.toList.drop (n + (itm (s.data.toList.drop n)).2) = 93 :: r
      · obtain ⟨r, hr⟩ := hc
        exact ⟨_, .last h0 hle hr⟩
      · obtain ⟨x, hx⟩ := ih (n + (itm (s.data.toList.drop n)).2) (bothS S (itm (s.data.toList.drop n)).1) hle (by omega)
        exact ⟨x, .more h0 hle (fun r hr => hc ⟨r, hr⟩) hx⟩
theorem itm_pair (s : ByteArray) (hz : s.size ≤ 2147483648) (n : Nat) : ItemC MaxAt (s.extract n s.size) ((itm (s.data.toList.drop n)).1, (itm (s.data.toList.drop n)).2) := by
  have h := item_any (s.extract n s.size) (by simp; omega)
  rwa [drop_of] at h
theorem BrkP.toBrk {s : ByteArray} (hz : s.size ≤ 2147483648) {n : Nat} {S : Nat → Nat} {r : Option ((Nat → Nat) × Nat)} (h : BrkP s n S r) : Brk MaxAt s n S r := by
  induction h with
  | @bad n S hn h0 =>
    have hI := itm_pair s hz n
    rw [h0] at hI
    exact .bad (itm_ok _) hn hI
  | @last n S r h0 hle hr => exact .last (itm_ok _) (itm_pair s hz n) h0 hle (by unfold pre; rw [drop_of, hr]; rfl)
  | @more n S x h0 hle hne _ ih =>
    refine .more (itm_ok _) (itm_pair s hz n) h0 hle ?_ ih
    unfold pre
    rw [drop_of]
    match hl : s.data.toList.drop (n + (itm (s.data.toList.drop n)).2) with
    | [] => rfl
    | c :: r =>
      have hc : c ≠ 93 := fun e => hne r (by rw [hl, e])
      simp [List.isPrefixOf, Ne.symm hc]
end Go.Proofs.Ytncbmdbfdjhkeaa

/-
  Nodes in memory, and where a path stands in one: the library's BinarySearchFunc over the program's comparison, and place. Condition: the node has at most 64 files, by rising paths.
-/
import Derived.Test.YtcjbhjbjkfgphaaNspl
import Derived.Test.YtcjbhjbjkfgphaaShelf
import Derived.Test.YtcjbhjbjkfgphaaTapi
namespace Go.Proofs.Ytcjbhjbjkfgphaa
open Go.RowKit Go.Deep

def FX.cells (x : FX) : List Value := [.string x.f.path, .int .i64 x.f.ver, .pointer x.q]
def FX.agg (x : FX) : Value := .agg #[.string x.f.path, .int .i64 x.f.ver, .pointer x.q]
def xsV (xs : List FX) : List Value := xs.flatMap FX.cells
theorem length_xsV : ∀ xs : List FX, (xsV xs).length = xs.length * 3
  | [] => rfl
  | f :: r => by
    have := length_xsV r
    simp only [xsV, List.flatMap_cons, List.length_append, List.length_cons] at this ⊢
    simp only [FX.cells, List.length_cons, List.length_nil]
    omega
theorem xsV_append (a b : List FX) : xsV (a ++ b) = xsV a ++ xsV b := by simp [xsV]
theorem xsV_take : ∀ (xs : List FX) (i : Nat), (xsV xs).take (i * 3) = xsV (xs.take i)
  | xs, 0 => by simp [xsV]
  | [], i + 1 => by simp [xsV]
  | x :: xs, i + 1 => by
    have ih := xsV_take xs i
    rw [show (i + 1) * 3 = i * 3 + 3 by omega]
    simp only [xsV, List.flatMap_cons, List.take_succ_cons] at ih ⊢
    show (x.cells ++ _).take _ = _
    simp only [FX.cells, List.cons_append, List.nil_append, List.take_succ_cons, ih]
theorem xsV_drop : ∀ (xs : List FX) (i : Nat), (xsV xs).drop (i * 3) = xsV (xs.drop i)
  | xs, 0 => by simp [xsV]
  | [], i + 1 => by simp [xsV]
  | x :: xs, i + 1 => by
    have ih := xsV_drop xs i
    rw [show (i + 1) * 3 = i * 3 + 3 by omega]
    simp only [xsV, List.flatMap_cons, List.drop_succ_cons] at ih ⊢
    show (x.cells ++ _).drop _ = _
    simp only [FX.cells, List.cons_append, List.nil_append, List.drop_succ_cons, ih]
theorem xsV_at : ∀ {xs : List FX} (i : Nat) (x : FX), xs[i]? = some x → ∀ (j : Nat) (v : Value), x.cells[j]? = some v → (xsV xs)[i * 3 + j]? = some v
  | [], i, f, h, _, _, _ => by simp at h
  | a :: r, 0, f, h, j, v, hv => by
    simp at h
    subst h
    have hj : j < a.cells.length := (List.getElem?_eq_some_iff.1 hv).1
    simp only [xsV, List.flatMap_cons, Nat.zero_mul, Nat.zero_add]
    rw [List.getElem?_append_left hj]
    exact hv
  | a :: r, i + 1, f, h, j, v, hv => by
    have := xsV_at (xs := r) i f (by simpa using h) j v hv
    simp only [xsV, List.flatMap_cons]
    have h3 : a.cells.length = 3 := rfl
    rw [List.getElem?_append_right (by omega), h3, show (i + 1) * 3 + j - 3 = i * 3 + j by omega]
    exact this
theorem oneCell_xsV {xs : List FX} : ∀ v ∈ xsV xs, v.oneCell' = true := by
  intro v hv
  obtain ⟨f, _, hv⟩ := List.mem_flatMap.1 hv
  simp only [FX.cells, List.mem_cons, List.not_mem_nil, or_false] at hv
  rcases hv with rfl | rfl | rfl <;> rfl
def ptrV (k : Nat) : Value := .pointer (some ⟨k, 0, none⟩)
def ksV (ks : List Nat) : List Value := ks.map ptrV
theorem length_ksV (ks : List Nat) : (ksV ks).length = ks.length * 1 := by simp [ksV]
theorem oneCell_ksV {ks : List Nat} : ∀ v ∈ ksV ks, v.oneCell' = true := by
  intro v hv
  obtain ⟨f, _, rfl⟩ := List.mem_map.1 hv
  rfl
/-- A node in memory: its files and where its kids lie. -/
def NodeAt (w : World) (b : Nat) (fs : List FX) (ad : List Nat) : Prop := ∃ A1 c1 A2 c2, w.heap[b]? = some (.cells #[.slice A1 fs.length c1, .slice A2 ad.length c2] 77) ∧ fs.length ≤ c1 ∧ ad.length ≤ c2 ∧ RawAt w A1 (xsV fs) ∧ RawAt w A2 (ksV ad)
theorem NodeAt.lt {w : World} {b : Nat} {fs : List FX} {ad : List Nat} (h : NodeAt w b fs ad) : b < w.heap.size := by
  obtain ⟨_, _, _, _, h, _⟩ := h
  exact (Array.getElem?_eq_some_iff.1 h).1
theorem NodeAt.below {w w' : World} {b : Nat} {fs : List FX} {ad : List Nat} (h : NodeAt w b fs ad) (hb : Below w.heap.size w w') : NodeAt w' b fs ad := by
  have hl := h.lt
  obtain ⟨A1, c1, A2, c2, h1, h2, h3, h4, h5⟩ := h
  exact ⟨A1, c1, A2, c2, (hb.block b hl).trans h1, h2, h3, h4.below hb, h5.below hb⟩

def cmpP (a b : ByteArray) : Int := Lib.compareBytes a.data.toList b.data.toList
theorem compare_less : ∀ a b : List UInt8, (Lib.compareBytes a b < 0 ↔ Op.bytesLess a b = true) ∧ (Lib.compareBytes a b = 0 ↔ a = b) ∧ -1 ≤ Lib.compareBytes a b ∧ Lib.compareBytes a b ≤ 1
  | [], [] => by simp [Lib.compareBytes, Op.bytesLess]
  | [], _ :: _ => by simp [Lib.compareBytes, Op.bytesLess]
  | _ :: _, [] => by simp [Lib.compareBytes, Op.bytesLess]
  | a :: x, b :: y => by
    obtain ⟨h1, h2, h3, h4⟩ := compare_less x y
    rw [bless_cons]
    unfold Lib.compareBytes
    by_cases hab : a < b
    · rw [if_pos hab]
      have hne : a ≠ b := fun e => by rw [e] at hab; exact absurd hab (UInt8.lt_irrefl b)
      simp [hab, hne]
    · rw [if_neg hab]
      by_cases hba : b < a
      · rw [if_pos hba]
        have hne : a ≠ b := fun e => by rw [e] at hba; exact absurd hba (UInt8.lt_irrefl b)
        simp [hab, hne]
      · rw [if_neg hba]
        have he : a = b := by
          apply UInt8.toNat_inj.1
          have k1 : ¬ a.toNat < b.toNat := fun h => hab (UInt8.lt_iff_toNat_lt.2 h)
          have k2 : ¬ b.toNat < a.toNat := fun h => hba (UInt8.lt_iff_toNat_lt.2 h)
          omega
        subst he
        simp only [List.cons.injEq, true_and]
        exact ⟨by rw [h1]; simp [hab], h2, h3, h4⟩
theorem cmpP_lt {a b : ByteArray} : cmpP a b < 0 ↔ pless a b = true := by
  unfold cmpP pless
  rw [ByteArray.toList_eq, ByteArray.toList_eq]
  exact (compare_less _ _).1
theorem cmpP_eq {a b : ByteArray} : cmpP a b = 0 ↔ a = b := by
  refine (compare_less a.data.toList b.data.toList).2.1.trans ⟨fun h => toList_inj (by rw [ByteArray.toList_eq, ByteArray.toList_eq]; exact h), fun h => by rw [h]⟩
set_option maxRecDepth 100000 in
set_option maxHeartbeats 1000000 in
theorem less_file (x : FX) (p : ByteArray) (w : World) : Calls Try.prog 55 #[x.agg, .string p] w (Answers (.int .i64 (cmpP x.f.path p)) w) := by
  obtain ⟨⟨path, ver, text⟩, q⟩ := x
  have HC := Lib.hid fun W => Try.strings_Compare path p W
  have HB := Lib.hid (show Below w.heap.size w (w.alloc (.cells #[.string path, .int .i64 ver, .pointer q] 68)) from (Below.refl _ w).alloc (Nat.le_refl _) _)
  show Calls Try.prog 55 #[.agg #[.string path, .int .i64 ver, .pointer q], .string p] w _
  go_enter Try.func55, Try.ntmps55
  go_wp2_with fail
  go_at_call 56
  (with_reducible refine (HC.out _).mono ?_)
  rintro e w1 ⟨rfl, rfl⟩
  go_wp2_with fail
  go_ret
  exact ⟨rfl, HB.out⟩
/-- Where a path stands among files that rise. -/
structure PlaceIs (fs : List FX) (p : ByteArray) (i : Nat) (t : Bool) : Prop where
  le : i ≤ fs.length
  lt : AllLt (fs.take i) p
  is : t = true → ∃ x, fs[i]? = some x ∧ x.f.path = p
  gt : t = true → AllGt (fs.drop (i + 1)) p
  no : t = false → AllGt (fs.drop i) p
def PlaceAns (fs : List FX) (p : ByteArray) (w : World) (e : Ending) (w' : World) : Prop := ∃ i t, e = .returned (.tuple #[.int .i64 ((i : Nat) : Int), .bool t]) ∧ PlaceIs fs p i t ∧ Below w.heap.size w w'
theorem rising_lt {xs : List FX} (h : RisingX xs) {i j : Nat} {x y : FX} (hx : xs[i]? = some x) (hy : xs[j]? = some y) (hij : i < j) : pless x.f.path y.f.path = true := by
  have hs := h
  rw [← List.take_append_drop (i + 1) xs] at hs
  refine (RisingX.split hs).2.2 x ?_ y ?_
  · exact List.mem_of_getElem? (i := i) (by rw [List.getElem?_take, if_pos (by omega)]; exact hx)
  · exact List.mem_of_getElem? (i := j - (i + 1)) (by rw [List.getElem?_drop, show i + 1 + (j - (i + 1)) = j by omega]; exact hy)
theorem PlaceIs.of {fs : List FX} {p : ByteArray} {i : Nat} (hr : RisingX fs) (hi : i ≤ fs.length) (hlt : ∀ k x, k < i → fs[k]? = some x → pless x.f.path p = true) (hge : ∀ k x, i ≤ k → fs[k]? = some x → pless x.f.path p = false) : PlaceIs fs p i (decide (∃ x, fs[i]? = some x ∧ x.f.path = p)) := by
  have hl : AllLt (fs.take i) p := fun x hx => by
    obtain ⟨k, hk⟩ := List.getElem?_of_mem hx
    rw [List.getElem?_take] at hk
    split at hk
    · rename_i hki
      exact hlt k x hki hk
    · cases hk
  refine ⟨hi, hl, fun h => of_decide_eq_true h, fun h => ?_, fun h => ?_⟩
  · obtain ⟨x, hx, rfl⟩ := of_decide_eq_true h
    intro y hy
    obtain ⟨k, hk⟩ := List.getElem?_of_mem hy
    rw [List.getElem?_drop] at hk
    exact rising_lt hr hx hk (by omega)
  · have hn := of_decide_eq_false h
    intro y hy
    obtain ⟨k, hk⟩ := List.getElem?_of_mem hy
    rw [List.getElem?_drop] at hk
    have h1 := hge (i + k) y (by omega) hk
    by_cases he : y.f.path = p
    · exfalso
      by_cases hk0 : k = 0
      · subst hk0
        exact hn ⟨y, hk, he⟩
      · obtain ⟨z, hz⟩ : ∃ z, fs[i]? = some z := ⟨fs[i]'(by have := (List.getElem?_eq_some_iff.1 hk).1; omega), List.getElem?_eq_getElem _⟩
        have := rising_lt hr hz hk (by omega)
        rw [he, hge i z (Nat.le_refl _) hz] at this
        cases this
    · exact pless_tri h1 he
end Go.Proofs.Ytcjbhjbjkfgphaa

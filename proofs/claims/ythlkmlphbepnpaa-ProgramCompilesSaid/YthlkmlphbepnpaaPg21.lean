/-
  Package program's Files: the paths that commands write to, rising, each once. Condition: fewer than a million commands.
-/
import Derived.Test.YthlkmlphbepnpaaPg20
import Derived.Test.YthlkmlphbepnpaaShelf
import Derived.Sort.OwnSorted
namespace Go.Proofs.Ythlkmlphbepnpaa
open Go.RowKit Go.Deep Go.Sort

abbrev Bs := List UInt8
theorem bs_lt {a b : Bs} (h : a ≤ b) (hn : a ≠ b) : a < b := by
  by_cases hc : a < b
  · exact hc
  · exact absurd (List.le_antisymm h hc) hn
theorem get_bang (zs : List Bs) {j : Nat} (h : j < zs.length) : zs.toArray[j]! = zs[j] := by simp [h]
/-- What Compact leaves of a sorted row. -/
theorem compact_up (zs : List Bs) (hs : zs.Pairwise (· ≤ ·)) : ∀ m, m ≤ zs.length → (Lib.compactUpTo zs.toArray m).Pairwise (· < ·) ∧ (∀ x ∈ Lib.compactUpTo zs.toArray m, ∃ j, j < m ∧ zs[j]? = some x) ∧ ∀ j x, j < m → zs[j]? = some x → x ∈ Lib.compactUpTo zs.toArray m
  | 0, _ => ⟨by simp [Lib.compactUpTo], by simp [Lib.compactUpTo], fun j x hj => absurd hj (Nat.not_lt_zero j)⟩
  | m + 1, hm => by
    obtain ⟨h1, h2, h3⟩ := compact_up zs hs m (by omega)
    have hle : ∀ i j (hi : i < zs.length) (hj : j < zs.length), i ≤ j → zs[i] ≤ zs[j] := fun i j hi hj hij => by
      rcases Nat.lt_or_eq_of_le hij with h | rfl
      · exact List.pairwise_iff_getElem.1 hs i j hi hj h
      · exact List.le_refl _
    rw [Lib.compactUpTo_succ]
    by_cases hk : Lib.keeps zs.toArray m = true
    · rw [if_pos hk, get_bang zs (by omega)]
      refine ⟨List.pairwise_append.2 ⟨h1, by simp, fun x hx y hy => ?_⟩, fun x hx => ?_, fun j x hj hx => ?_⟩
      · rw [List.mem_singleton] at hy
        subst hy
        obtain ⟨j, hj, hjx⟩ := h2 x hx
        have hjl := (List.getElem?_eq_some_iff.1 hjx).1
        have hx2 : zs[j] = x := (List.getElem?_eq_some_iff.1 hjx).2
        have hm0 : m ≠ 0 := by omega
        have hne : zs[m - 1] ≠ zs[m] := by
          have h5 : m = 0 ∨ zs.toArray[m]! ≠ zs.toArray[m - 1]! := by simpa [Lib.keeps] using hk
          rcases h5 with h5 | h5
          · omega
          · rw [get_bang zs (by omega), get_bang zs (by omega)] at h5
            exact fun e => h5 e.symm
        have h6 := bs_lt (hle (m - 1) m (by omega) (by omega) (by omega)) hne
        rw [← hx2]
        exact List.lt_of_le_of_lt (hle j (m - 1) hjl (by omega) (by omega)) h6
      · rcases List.mem_append.1 hx with hx | hx
        · obtain ⟨j, hj, hjx⟩ := h2 x hx
          exact ⟨j, by omega, hjx⟩
        · rw [List.mem_singleton] at hx
          exact ⟨m, by omega, by rw [hx]; exact List.getElem?_eq_getElem (by omega)⟩
      · rcases Nat.lt_or_ge j m with h | h
        · exact List.mem_append_left _ (h3 j x h hx)
        · obtain rfl : j = m := by omega
          rw [List.getElem?_eq_getElem (by omega)] at hx
          injection hx with hx
          exact List.mem_append_right _ (by rw [hx]; exact List.mem_singleton.2 rfl)
    · have hkf : Lib.keeps zs.toArray m = false := by simpa using hk
      rw [hkf, if_neg (by simp), List.append_nil]
      refine ⟨h1, fun x hx => ?_, fun j x hj hx => ?_⟩
      · obtain ⟨j, hj, hjx⟩ := h2 x hx
        exact ⟨j, by omega, hjx⟩
      · rcases Nat.lt_or_ge j m with h | h
        · exact h3 j x h hx
        · obtain rfl : j = m := by omega
          have h5 : ¬ (j = 0 ∨ zs.toArray[j]! ≠ zs.toArray[j - 1]!) := by simpa [Lib.keeps] using hkf
          have h6 : zs.toArray[j]! = zs.toArray[j - 1]! := by
            by_cases he : zs.toArray[j]! = zs.toArray[j - 1]!
            · exact he
            · exact absurd (.inr he) h5
          have h7 : j ≠ 0 := fun e => h5 (.inl e)
          rw [get_bang zs (by omega), get_bang zs (by omega)] at h6
          rw [List.getElem?_eq_getElem (by omega)] at hx
          injection hx with hx
          rw [h6] at hx
          exact h3 (j - 1) x (by omega) (by rw [List.getElem?_eq_getElem (by omega), hx])
theorem sorted_pair (l : List Bs) : (l.mergeSort fun x y => decide (x ≤ y)).Pairwise (· ≤ ·) := by
  have h := List.pairwise_mergeSort (le := fun (x y : Bs) => decide (x ≤ y)) (fun a b c h1 h2 => by
    simp only [decide_eq_true_eq] at *
    exact List.le_trans h1 h2) (fun a b => by
    simp only [Bool.or_eq_true, decide_eq_true_eq]
    exact List.le_total a b) l
  exact h.imp fun h => by simpa using h
/-- What Files answers. -/
def FilesAns (cs : List CM) (w : World) (e : Ending) (w' : World) : Prop := Below w.heap.size w w' ∧ ∃ A c F, e = .returned (.slice A (F : List Bs).length c) ∧ RawAt w' A (sV F) ∧ F.Pairwise (· < ·) ∧ F.length ≤ cs.length ∧ ∀ x, x ∈ F ↔ x ∈ pathsF cs cs.length
theorem compact_ok (l : List Bs) : (Lib.compact (l.mergeSort fun x y => decide (x ≤ y))).Pairwise (· < ·) ∧ ∀ x, x ∈ Lib.compact (l.mergeSort fun x y => decide (x ≤ y)) ↔ x ∈ l := by
  obtain ⟨h1, h2, h3⟩ := compact_up _ (sorted_pair l) _ (Nat.le_refl _)
  refine ⟨h1, fun x => ⟨fun hx => ?_, fun hx => ?_⟩⟩
  · obtain ⟨j, _, hj⟩ := h2 x hx
    exact (List.mem_mergeSort (le := fun (x y : Bs) => decide (x ≤ y))).1 (List.mem_of_getElem? hj)
  · obtain ⟨j, hj, he⟩ := List.getElem_of_mem ((List.mem_mergeSort (le := fun (x y : Bs) => decide (x ≤ y))).2 hx)
    exact h3 j x hj (by rw [List.getElem?_eq_getElem hj, he])
end Go.Proofs.Ythlkmlphbepnpaa

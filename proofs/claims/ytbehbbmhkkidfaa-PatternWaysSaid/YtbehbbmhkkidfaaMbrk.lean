/-
  The items of a bracket, as the text's own items. Condition: a text; the world holds what strings.Index asks.
-/
import Derived.Test.YtbehbbmhkkidfaaCitemn
import Derived.Test.YtbehbbmhkkidfaaCbrk
namespace Go.Proofs.Ytbehbbmhkkidfaa
open Go.RowKit

/-- The items of a bracket, as the texts' own items. -/
inductive BrkP (s : ByteArray) : Nat → (Nat → Nat) → Option ((Nat → Nat) × Nat) → Prop
  | bad {n : Nat} {S : Nat → Nat} : n ≤ s.size → (itm (s.data.toList.drop n)).2 = 0 → BrkP s n S none
  | last {n : Nat} {S : Nat → Nat} {r : List UInt8} : 0 < (itm (s.data.toList.drop n)).2 → n + (itm (s.data.toList.drop n)).2 ≤ s.size → s.data.toList.drop (n + (itm (s.data.toList.drop n)).2) = 93 :: r → BrkP s n S (some (bothS S (itm (s.data.toList.drop n)).1, n + (itm (s.data.toList.drop n)).2))
  | more {n : Nat} {S : Nat → Nat} {x : Option ((Nat → Nat) × Nat)} : 0 < (itm (s.data.toList.drop n)).2 → n + (itm (s.data.toList.drop n)).2 ≤ s.size → (∀ r, s.data.toList.drop (n + (itm (s.data.toList.drop n)).2) ≠ 93 :: r) → BrkP s (n + (itm (s.data.toList.drop n)).2) (bothS S (itm (s.data.toList.drop n)).1) x → BrkP s n S x
theorem itm_ok (l : List UInt8) : OkS (itm l).1 := by
  unfold itm
  split
  · unfold nmd
    split
    · exact nameS_ok _
    · exact OkS.no
  · unfold itmP
    split
    · exact OkS.no
    · split
      · exact OkS.no.withS _ _
      · exact OkS.no
    · split
      · exact OkS.no.withS _ _
      · exact OkS.no
    · split
      · split
        · split
          · exact OkS.no.withS _ _
          · exact OkS.no
        · exact OkS.no.withS _ _
      · exact OkS.no
theorem cut_len (l : List UInt8) (h : (Lib.cut l [58, 93]).2.2 = true) : (Lib.cut l [58, 93]).1.length + 2 ≤ l.length := by
  unfold Lib.cut at h ⊢
  split
  · rename_i hi
    have := Lib.index_room l [58, 93] hi
    simp only [List.length_cons, List.length_nil] at this
    simp only [List.length_take]
    omega
  · rename_i hi
    rw [if_neg hi] at h
    cases h
theorem itm_le (l : List UInt8) : (itm l).2 ≤ l.length := by
  unfold itm
  split
  · rename_i hp
    unfold nmd
    split
    · rename_i h
      have := cut_len _ h.1
      obtain ⟨r, hr⟩ := List.isPrefixOf_iff_prefix.1 hp
      rw [← hr] at this ⊢
      simp only [List.cons_append, List.nil_append, List.drop_succ_cons, List.drop_zero, List.length_cons] at this ⊢
      omega
    · exact Nat.zero_le _
  · match l with
    | [] => exact Nat.zero_le _
    | [c] =>
      simp only [itmP]
      split
      · exact Nat.le_refl _
      · exact Nat.zero_le _
    | [c, d] =>
      simp only [itmP]
      split
      · exact Nat.le_succ _
      · exact Nat.zero_le _
    | c :: d :: e :: q =>
      simp only [itmP]
      split
      · split
        · split
          · simp
          · exact Nat.zero_le _
        · simp
      · exact Nat.zero_le _
theorem brkP_ex (s : ByteArray) : ∀ (d n : Nat) (S : Nat → Nat), n ≤ s.size → s.size - n ≤ d → ∃ r, BrkP s n S r := by
  intro d
  induction d with
  | zero =>
    intro n S hn hd
    have h := itm_le (s.data.toList.drop n)
    have hl : (s.data.toList.drop n).length = s.size - n := by rw [List.length_drop]; simp
    exact ⟨none, .bad hn (by omega)⟩
  | succ d ih =>
    intro n S hn hd
    have h := itm_le (s.data.toList.drop n)
    have hl : (s.data.toList.drop n).length = s.size - n := by rw [List.length_drop]; simp
    rcases Nat.eq_zero_or_pos (itm (s.data.toList.drop n)).2 with h0 | h0
    · exact ⟨none, .bad hn h0⟩
    · have hle : n + (itm (s.data.toList.drop n)).2 ≤ s.size := by omega
      by_cases hc : ∃ r, s.data.toList.drop (n + (itm (s.data.toList.drop n)).2) = 93 :: r
      · obtain ⟨r, hr⟩ := hc
        exact ⟨_, .last h0 hle hr⟩
      · obtain ⟨x, hx⟩ := ih (n + (itm (s.data.toList.drop n)).2) (bothS S (itm (s.data.toList.drop n)).1) hle (by omega)
        exact ⟨x, .more h0 hle (fun r hr => hc ⟨r, hr⟩) hx⟩
theorem itm_pair (s : ByteArray) (hz : s.size ≤ 2147483648) (n : Nat) : ItemC MaxAt (s.extract n s.size) ((itm (s.data.toList.drop n)).1, (itm (s.data.toList.drop n)).2) := by
  have h := item_any (s.extract n s.size) (by simp; omega)
  rwa [drop_of] at h
theorem BrkP.toBrk {s : ByteArray} (hz : s.size ≤ 2147483648) {n : Nat} {S : Nat → Nat} {r : Option ((Nat → Nat) × Nat)} (h : BrkP s n S r) : Brk MaxAt s n S r := by
  induction h with
  | @bad n S hn h0 =>
    have hI := itm_pair s hz n
    rw [h0] at hI
    exact .bad (itm_ok _) hn hI
  | @last n S r h0 hle hr => exact .last (itm_ok _) (itm_pair s hz n) h0 hle (by unfold pre; rw [drop_of, hr]; rfl)
  | @more n S x h0 hle hne _ ih =>
    refine .more (itm_ok _) (itm_pair s hz n) h0 hle ?_ ih
    unfold pre
    rw [drop_of]
    match hl : s.data.toList.drop (n + (itm (s.data.toList.drop n)).2) with
    | [] => rfl
    | c :: r =>
      have hc : c ≠ 93 := fun e => hne r (by rw [hl, e])
      simp [List.isPrefixOf, Ne.symm hc]

end Go.Proofs.Ytbehbbmhkkidfaa

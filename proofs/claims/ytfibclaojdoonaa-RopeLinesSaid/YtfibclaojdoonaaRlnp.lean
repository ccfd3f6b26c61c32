/-
  What a text's lines are: no line feed but at the end; just the last one may have none. Condition: none.
-/
import Derived.Test.YtfibclaojdoonaaRline
namespace Go.Proofs.Ytfibclaojdoonaa

theorem lns_inner : ∀ (l : List UInt8), ∀ x ∈ lns l, ∀ c ∈ x.dropLast, c ≠ 10
  | [], x, h => by cases h
  | c :: r, x, h => by
    have ih := lns_inner r
    have hne := lns_ne r
    have h' : x ∈ (if c = 10 then [10] :: lns r else match lns r with
      | [] => [[c]]
      | y :: ys => (c :: y) :: ys) := h
    split at h'
    · rcases List.mem_cons.1 h' with h' | h'
      · rw [h']; intro d hd; cases hd
      · exact ih x h'
    · rename_i hc
      split at h'
      · rw [List.mem_singleton] at h'
        rw [h']; intro d hd; cases hd
      · rename_i y ys he
        rcases List.mem_cons.1 h' with h' | h'
        · rw [h', List.dropLast_cons_of_ne_nil (hne y (by rw [he]; simp))]
          intro d hd
          rcases List.mem_cons.1 hd with rfl | hd
          · exact hc
          · exact ih y (by rw [he]; simp) d hd
        · exact ih x (by rw [he]; simp [h'])

theorem lns_last : ∀ (l : List UInt8) (i : Nat) (x : List UInt8), (lns l)[i]? = some x → x.getLast? ≠ some 10 → i + 1 = (lns l).length
  | [], i, x, h, _ => by simp [lns] at h
  | c :: r, i, x, h, hx => by
    have ih := lns_last r
    have hne := lns_ne r
    have e : lns (c :: r) = (if c = 10 then [10] :: lns r else match lns r with
      | [] => [[c]]
      | y :: ys => (c :: y) :: ys) := rfl
    rw [e] at h ⊢
    split at h
    · rename_i hc
      rw [if_pos hc]
      cases i with
      | zero =>
        simp only [List.getElem?_cons_zero, Option.some.injEq] at h
        rw [← h] at hx
        exact absurd rfl hx
      | succ j =>
        rw [List.getElem?_cons_succ] at h
        rw [List.length_cons, ih j x h hx]
    · rename_i hc
      rw [if_neg hc]
      split at h
      · rename_i he
        cases i with
        | zero => rfl
        | succ j => rw [List.getElem?_cons_succ] at h; cases h
      · rename_i y ys he
        rw [he] at ih
        cases i with
        | zero =>
          simp only [List.getElem?_cons_zero, Option.some.injEq] at h
          rw [← h, List.getLast?_cons_of_ne_nil (hne y (by rw [he]; simp))] at hx
          have := ih 0 y rfl hx
          simpa using this
        | succ j =>
          rw [List.getElem?_cons_succ] at h
          have := ih (j + 1) x (by rw [List.getElem?_cons_succ]; exact h) hx
          simpa using this

theorem lns_length_le : ∀ l : List UInt8, (lns l).length ≤ l.length
  | [] => Nat.le_refl _
  | c :: r => by
    have ih := lns_length_le r
    have e : lns (c :: r) = (if c = 10 then [10] :: lns r else match lns r with
      | [] => [[c]]
      | y :: ys => (c :: y) :: ys) := rfl
    rw [e]
    split
    · simp only [List.length_cons]; omega
    · split
      · simp
      · rename_i y ys he
        rw [he] at ih
        simp only [List.length_cons] at ih ⊢
        omega
theorem lns_nil_iff (l : List UInt8) : (lns l).length = 0 ↔ l.length = 0 := by
  constructor
  · intro h
    have h1 := lns_flatten l
    rw [List.length_eq_zero_iff.1 h] at h1
    rw [← h1]; rfl
  · intro h
    rw [List.length_eq_zero_iff.1 h]; rfl
/-- One line more behind the first i. -/
theorem take_flatten_succ (ls : List (List UInt8)) (i : Nat) (x : List UInt8) (h : ls[i]? = some x) : (ls.take (i + 1)).flatten = (ls.take i).flatten ++ x := by
  rw [List.take_add_one, h]
  simp
end Go.Proofs.Ytfibclaojdoonaa

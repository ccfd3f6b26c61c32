/-
  Texts and their lines, as plain lists of bytes. No condition.
-/
import Derived.Test.YtmcohbppeabmgaaRows
import Derived.WalkKit
import Derived.ProofKit
namespace Go.Proofs.Ytmcohbppeabmgaa

/-- A text, as a string's value. -/
def txt (l : List UInt8) : ByteArray := ⟨l.toArray⟩
theorem size_txt (l : List UInt8) : (txt l).size = l.length := by simp [txt, ByteArray.size]
theorem txt_of (s : ByteArray) : txt s.data.toList = s := by cases s; simp [txt]
theorem txt_inj {a b : List UInt8} (h : txt a = txt b) : a = b := by
  have := congrArg (fun s : ByteArray => s.data.toList) h
  simpa [txt] using this
theorem txt_append (a b : List UInt8) : txt a ++ txt b = txt (a ++ b) := by
  have : (txt a ++ txt b).data = (txt (a ++ b)).data := by simp [txt, ByteArray.data_append]
  cases h : txt a ++ txt b
  rw [h] at this
  simp only at this
  rw [this]
theorem txt_extract (l : List UInt8) (i j : Nat) : (txt l).extract i j = txt ((l.take j).drop i) := by
  have : ((txt l).extract i j).data = (txt ((l.take j).drop i)).data := by
    simp [txt, ByteArray.data_extract, List.drop_take]
  cases h : (txt l).extract i j
  rw [h] at this
  simp only at this
  rw [this]

/-- A text's lines, each with its line feed. -/
def lns : List UInt8 → List (List UInt8)
  | [] => []
  | c :: r => if c = 10 then [10] :: lns r else match lns r with
    | [] => [[c]]
    | x :: xs => (c :: x) :: xs
theorem lns_feed (r : List UInt8) : lns (10 :: r) = [10] :: lns r := by simp [lns]
theorem lns_line : ∀ (a r : List UInt8), (∀ c ∈ a, c ≠ 10) → lns (a ++ 10 :: r) = (a ++ [10]) :: lns r
  | [], r, _ => lns_feed r
  | c :: a, r, h => by
    have ih := lns_line a r (fun x hx => h x (by simp [hx]))
    have hc : c ≠ 10 := h c (by simp)
    show (if c = 10 then _ else _) = _
    rw [if_neg hc, List.append_eq, ih]
    rfl
theorem lns_plain : ∀ (a : List UInt8), (∀ c ∈ a, c ≠ 10) → lns a = if a = [] then [] else [a]
  | [], _ => rfl
  | c :: a, h => by
    have ih := lns_plain a (fun x hx => h x (by simp [hx]))
    have hc : c ≠ 10 := h c (by simp)
    show (if c = 10 then _ else _) = _
    rw [if_neg hc]
    by_cases ha : a = []
    · subst ha
      rfl
    · rw [if_neg ha] at ih
      rw [ih]
      simp
theorem lns_flatten : ∀ s : List UInt8, (lns s).flatten = s
  | [] => rfl
  | c :: r => by
    have ih := lns_flatten r
    show (if c = 10 then _ else _ : List (List UInt8)).flatten = _
    split
    · rename_i h
      rw [List.flatten_cons, ih, h]
      rfl
    · split
      · rename_i h
        rw [h] at ih
        simp at ih
        rw [ih]
        rfl
      · rename_i x xs h
        rw [h, List.flatten_cons] at ih
        rw [List.flatten_cons, ← ih]
        rfl
/-- Each text begins with a line, or has none. -/
theorem lns_cases (s : List UInt8) : (∀ c ∈ s, c ≠ 10) ∨ ∃ a r, s = a ++ 10 :: r ∧ ∀ c ∈ a, c ≠ 10 := by
  induction s with
  | nil => exact .inl (fun c h => by cases h)
  | cons c s ih =>
    by_cases hc : c = 10
    · exact .inr ⟨[], s, by rw [hc]; rfl, fun c h => by cases h⟩
    · rcases ih with h | ⟨a, r, e, h⟩
      · exact .inl (fun x hx => by
          rcases List.mem_cons.1 hx with hx | hx
          · rw [hx]; exact hc
          · exact h x hx)
      · exact .inr ⟨c :: a, r, by rw [e]; rfl, fun x hx => by
          rcases List.mem_cons.1 hx with hx | hx
          · rw [hx]; exact hc
          · exact h x hx⟩
/-- How many line feeds. -/
def feeds (s : List UInt8) : Nat := s.count 10
theorem feeds_append (a b : List UInt8) : feeds (a ++ b) = feeds a + feeds b := by simp [feeds]
theorem feeds_none {a : List UInt8} (h : ∀ c ∈ a, c ≠ 10) : feeds a = 0 := by
  unfold feeds
  rw [List.count_eq_zero]
  exact fun hm => h 10 hm rfl
theorem feeds_cons10 (r : List UInt8) : feeds (10 :: r) = feeds r + 1 := by simp [feeds]
/-- Is there something behind the last line feed? -/
def rest (s : List UInt8) : Nat := match s.getLast? with
  | none => 0
  | some c => if c = 10 then 0 else 1
theorem rest_append {a b : List UInt8} (h : b ≠ []) : rest (a ++ b) = rest b := by
  unfold rest
  rw [List.getLast?_append]
  cases hb : b.getLast? with
  | none => exact absurd (List.getLast?_eq_none_iff.1 hb) h
  | some x => rfl
theorem rest_nil : rest [] = 0 := rfl
theorem length_lns (s : List UInt8) : (lns s).length = feeds s + rest s := by
  generalize hn : s.length = n
  induction n using Nat.strongRecOn generalizing s with
  | ind n ih =>
    rcases lns_cases s with h | ⟨a, r, rfl, h⟩
    · rw [lns_plain s h, feeds_none h]
      by_cases hs : s = []
      · rw [if_pos hs, hs]; rfl
      · rw [if_neg hs]
        unfold rest
        rw [List.getLast?_eq_some_getLast hs]
        simp only
        rw [if_neg (h _ (List.getLast_mem hs))]
        rfl
    · rw [lns_line a r h, List.length_cons, feeds_append, feeds_none h, feeds_cons10, ih r.length (by rw [← hn]; simp; omega) r rfl]
      by_cases hr : r = []
      · subst hr
        rw [show a ++ [10] = a ++ [10] from rfl, rest_append (by simp)]
        rfl
      · rw [show a ++ 10 :: r = (a ++ [10]) ++ r by simp, rest_append hr]
        omega
end Go.Proofs.Ytmcohbppeabmgaa

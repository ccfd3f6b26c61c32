/-
  Plain counting over bytes: how many line feeds a list of bytes has, and how many bytes stand behind the last one. No condition.
-/
import Derived.WalkKit
namespace Go.Proofs.Ytncbmdbfdjhkeaa

/-- One byte more: a line feed begins a line anew. -/
def step (p : Nat × Nat) (c : UInt8) : Nat × Nat := if c.toNat = 10 then (p.1 + 1, 0) else (p.1, p.2 + 1)
def cntFrom (p : Nat × Nat) (l : List UInt8) : Nat × Nat := l.foldl step p
def cnt (l : List UInt8) : Nat × Nat := cntFrom (0, 0) l

theorem cntFrom_append (p : Nat × Nat) (a b : List UInt8) : cntFrom p (a ++ b) = cntFrom (cntFrom p a) b := by
  simp [cntFrom, List.foldl_append]

theorem cnt_append (a b : List UInt8) : cnt (a ++ b) = cntFrom (cnt a) b := cntFrom_append _ a b

theorem cntFrom_eq (p : Nat × Nat) (l : List UInt8) : cntFrom p l = if (cnt l).1 = 0 then (p.1, p.2 + (cnt l).2) else (p.1 + (cnt l).1, (cnt l).2) := by
  induction l generalizing p with
  | nil => simp [cnt, cntFrom]
  | cons c r ih =>
    have h1 : cntFrom p (c :: r) = cntFrom (step p c) r := rfl
    have h2 : cnt (c :: r) = cntFrom (step (0, 0) c) r := rfl
    rw [h1, h2, ih (step p c), ih (step (0, 0) c)]
    unfold step
    by_cases hc : c.toNat = 10 <;> by_cases hz : (cnt r).1 = 0 <;> simp [hc, hz] <;> omega

theorem cnt_le (l : List UInt8) : (cnt l).1 + (cnt l).2 ≤ l.length := by
  have key : ∀ (l : List UInt8) (p : Nat × Nat), (cntFrom p l).1 + (cntFrom p l).2 ≤ p.1 + p.2 + l.length := by
    intro l
    induction l with
    | nil => intro p; simp [cntFrom]
    | cons c r ih =>
      intro p
      have h1 : cntFrom p (c :: r) = cntFrom (step p c) r := rfl
      rw [h1]
      have := ih (step p c)
      have h3 : (step p c).1 + (step p c).2 ≤ p.1 + p.2 + 1 := by
        unfold step; split <;> simp <;> omega
      simp only [List.length_cons]
      omega
  simpa [cnt] using key l (0, 0)

theorem cnt_snoc (l : List UInt8) (c : UInt8) : cnt (l ++ [c]) = step (cnt l) c := by
  rw [cnt_append]; rfl

theorem take_snoc (s : ByteArray) (k : Nat) (h : k < s.size) : s.data.toList.take (k + 1) = s.data.toList.take k ++ [s[k]] := by
  rw [List.take_succ_eq_append_getElem (by simpa using h)]; rfl

theorem cnt_take_succ (s : ByteArray) (k : Nat) (h : k < s.size) : cnt (s.data.toList.take (k + 1)) = step (cnt (s.data.toList.take k)) s[k] := by
  rw [take_snoc s k h, cnt_snoc]

theorem cnt_take_le (s : ByteArray) (k : Nat) : (cnt (s.data.toList.take k)).1 ≤ k ∧ (cnt (s.data.toList.take k)).2 ≤ k := by
  have := cnt_le (s.data.toList.take k)
  have h2 := List.length_take_le k s.data.toList
  omega

theorem take_all (s : ByteArray) : s.data.toList.take s.size = s.data.toList := by
  rw [List.take_of_length_le]; simp

end Go.Proofs.Ytncbmdbfdjhkeaa

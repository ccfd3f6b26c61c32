import Derived.Laws.Bits64
import Derived.Laws.Bits64b
import Derived.Laws.Shifts
/-
  Sets of bytes as four words: what is in them, what is made of them, how many they have. No condition but those named at each law.
-/
namespace Go.Proofs.Ytncbmdbfdjhkeaa
def setV (A : Nat → Nat) : Value := .agg #[.int .u64 (A 0), .int .u64 (A 1), .int .u64 (A 2), .int .u64 (A 3)]
def OkS (A : Nat → Nat) : Prop := ∀ k, A k < 18446744073709551616
def has (A : Nat → Nat) (c : Nat) : Bool := (A (c / 64)).testBit (c % 64)
def ins (A : Nat → Nat) (c : Nat) : Nat → Nat := fun k => if k = c / 64 then A k ||| 2 ^ (c % 64) else A k
def insN (A : Nat → Nat) (lo : Nat) : Nat → Nat → Nat
  | 0 => A
  | n + 1 => ins (insN A lo n) (lo + n)
def withS (A : Nat → Nat) (lo hi : Nat) : Nat → Nat := insN A lo (hi + 1 - lo)
def notS (A : Nat → Nat) : Nat → Nat := fun k => 18446744073709551615 ^^^ A k
def bothS (A B : Nat → Nat) : Nat → Nat := fun k => A k ||| B k
def noS : Nat → Nat := fun _ => 0
theorem OkS.no : OkS noS := fun _ => by simp [noS]
theorem OkS.ins {A : Nat → Nat} (h : OkS A) (c : Nat) : OkS (ins A c) := fun k => by
  unfold Proofs.Ytncbmdbfdjhkeaa.ins
  split
  · exact Nat.or_lt_two_pow (n := 64) (h k) (Nat.pow_lt_pow_right (by decide) (Nat.mod_lt _ (by decide)))
  · exact h k
theorem OkS.insN {A : Nat → Nat} (h : OkS A) (lo : Nat) : ∀ n, OkS (insN A lo n)
  | 0 => h
  | n + 1 => (OkS.insN h lo n).ins _
theorem OkS.withS {A : Nat → Nat} (h : OkS A) (lo hi : Nat) : OkS (withS A lo hi) := h.insN lo _
theorem OkS.not {A : Nat → Nat} (h : OkS A) : OkS (notS A) := fun k => Nat.xor_lt_two_pow (n := 64) (by decide) (h k)
theorem OkS.both {A B : Nat → Nat} (h : OkS A) (h' : OkS B) : OkS (bothS A B) := fun k => Nat.or_lt_two_pow (n := 64) (h k) (h' k)
theorem has_no (c : Nat) : has noS c = false := by simp [has, noS]
theorem has_ins (A : Nat → Nat) (c d : Nat) : has (ins A c) d = (has A d || decide (d = c)) := by
  unfold has ins
  by_cases h : d / 64 = c / 64
  · rw [if_pos h, Nat.testBit_or, Nat.testBit_two_pow]
    congr 1
    refine decide_eq_decide.2 ⟨fun e => by omega, fun e => by omega⟩
  · rw [if_neg h, decide_eq_false (by intro e; subst e; exact h rfl), Bool.or_false]
theorem has_insN (A : Nat → Nat) (lo d : Nat) : ∀ n, has (insN A lo n) d = (has A d || (decide (lo ≤ d) && decide (d < lo + n)))
  | 0 => by
    have e : (decide (lo ≤ d) && decide (d < lo + 0)) = false := by
      by_cases h : lo ≤ d
      · rw [decide_eq_false (p := d < lo + 0) (by omega), Bool.and_false]
      · rw [decide_eq_false h, Bool.false_and]
    rw [e, Bool.or_false]; rfl
  | n + 1 => by
    rw [insN, has_ins, has_insN A lo d n, Bool.or_assoc]
    congr 1
    rw [Bool.eq_iff_iff]
    simp only [Bool.or_eq_true, Bool.and_eq_true, decide_eq_true_eq]
    omega
theorem has_with (A : Nat → Nat) (lo hi d : Nat) : has (withS A lo hi) d = (has A d || (decide (lo ≤ d) && decide (d ≤ hi))) := by
  unfold withS
  rw [has_insN]
  congr 1
  rw [Bool.eq_iff_iff]
  simp only [Bool.and_eq_true, decide_eq_true_eq]
  omega
def rep (c : Nat) : Nat → Nat
  | 0 => 0
  | n + 1 => c + 16 * rep c n
def e1 (r : Nat) : Nat := (r / 2 &&& 5) + (r &&& 5)
def e2 (r : Nat) : Nat := (r / 4 &&& 3) + (r &&& 3)
end Go.Proofs.Ytncbmdbfdjhkeaa

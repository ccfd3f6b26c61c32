/-
  Sets of bytes as four words: what is in them, what is made of them, how many they have. No condition but those named at each law.
-/
import Derived.Laws.Bits64
import Derived.Laws.Bits64b
import Derived.Laws.Shifts
namespace Go.Proofs.Ytbehbbmhkkidfaa

/-- Four words as the set's value. -/
def setV (A : Nat → Nat) : Value := .agg #[.int .u64 (A 0), .int .u64 (A 1), .int .u64 (A 2), .int .u64 (A 3)]
def OkS (A : Nat → Nat) : Prop := ∀ k, A k < 18446744073709551616
def has (A : Nat → Nat) (c : Nat) : Bool := (A (c / 64)).testBit (c % 64)
def ins (A : Nat → Nat) (c : Nat) : Nat → Nat := fun k => if k = c / 64 then A k ||| 2 ^ (c % 64) else A k
def insN (A : Nat → Nat) (lo : Nat) : Nat → Nat → Nat
  | 0 => A
  | n + 1 => ins (insN A lo n) (lo + n)
def withS (A : Nat → Nat) (lo hi : Nat) : Nat → Nat := insN A lo (hi + 1 - lo)
def notS (A : Nat → Nat) : Nat → Nat := fun k => 18446744073709551615 ^^^ A k
def bothS (A B : Nat → Nat) : Nat → Nat := fun k => A k ||| B k
def noS : Nat → Nat := fun _ => 0

theorem OkS.no : OkS noS := fun _ => by simp [noS]
theorem OkS.ins {A : Nat → Nat} (h : OkS A) (c : Nat) : OkS (ins A c) := fun k => by
  unfold Proofs.Ytbehbbmhkkidfaa.ins
  split
  · exact Nat.or_lt_two_pow (n := 64) (h k) (Nat.pow_lt_pow_right (by decide) (Nat.mod_lt _ (by decide)))
  · exact h k
theorem OkS.insN {A : Nat → Nat} (h : OkS A) (lo : Nat) : ∀ n, OkS (insN A lo n)
  | 0 => h
  | n + 1 => (OkS.insN h lo n).ins _
theorem OkS.withS {A : Nat → Nat} (h : OkS A) (lo hi : Nat) : OkS (withS A lo hi) := h.insN lo _
theorem OkS.not {A : Nat → Nat} (h : OkS A) : OkS (notS A) := fun k => Nat.xor_lt_two_pow (n := 64) (by decide) (h k)
theorem OkS.both {A B : Nat → Nat} (h : OkS A) (h' : OkS B) : OkS (bothS A B) := fun k => Nat.or_lt_two_pow (n := 64) (h k) (h' k)

theorem has_no (c : Nat) : has noS c = false := by simp [has, noS]
theorem has_ins (A : Nat → Nat) (c d : Nat) : has (ins A c) d = (has A d || decide (d = c)) := by
  unfold has ins
  by_cases h : d / 64 = c / 64
  · rw [if_pos h, Nat.testBit_or, Nat.testBit_two_pow]
    congr 1
    refine decide_eq_decide.2 ⟨fun e => by omega, fun e => by omega⟩
  · rw [if_neg h, decide_eq_false (by intro e; subst e; exact h rfl), Bool.or_false]
theorem has_insN (A : Nat → Nat) (lo d : Nat) : ∀ n, has (insN A lo n) d = (has A d || (decide (lo ≤ d) && decide (d < lo + n)))
  | 0 => by
    have e : (decide (lo ≤ d) && decide (d < lo + 0)) = false := by
      by_cases h : lo ≤ d
      · rw [decide_eq_false (p := d < lo + 0) (by omega), Bool.and_false]
      · rw [decide_eq_false h, Bool.false_and]
    rw [e, Bool.or_false]; rfl
  | n + 1 => by
    rw [insN, has_ins, has_insN A lo d n, Bool.or_assoc]
    congr 1
    rw [Bool.eq_iff_iff]
    simp only [Bool.or_eq_true, Bool.and_eq_true, decide_eq_true_eq]
    omega
theorem has_with (A : Nat → Nat) (lo hi d : Nat) : has (withS A lo hi) d = (has A d || (decide (lo ≤ d) && decide (d ≤ hi))) := by
  unfold withS
  rw [has_insN]
  congr 1
  rw [Bool.eq_iff_iff]
  simp only [Bool.and_eq_true, decide_eq_true_eq]
  omega
theorem has_not (A : Nat → Nat) (c : Nat) : has (notS A) c = !has A c := by
  unfold has notS
  rw [Nat.testBit_xor]
  have h : (18446744073709551615 : Nat).testBit (c % 64) = true := by
    have := Nat.testBit_two_pow_sub_one 64 (c % 64)
    rw [show (2 : Nat) ^ 64 - 1 = 18446744073709551615 by decide] at this
    rw [this, decide_eq_true (Nat.mod_lt _ (by decide))]
  rw [h, Bool.true_xor]
theorem has_both (A B : Nat → Nat) (c : Nat) : has (bothS A B) c = (has A c || has B c) := by
  unfold has bothS
  rw [Nat.testBit_or]

/-- What has the same bytes is the same four words. -/
theorem words_eq {A B : Nat → Nat} (hA : OkS A) (hB : OkS B) (h : ∀ c, c < 256 → has A c = has B c) (k : Nat) (hk : k < 4) : A k = B k := by
  apply Nat.eq_of_testBit_eq
  intro i
  by_cases hi : i < 64
  · have := h (64 * k + i) (by omega)
    unfold has at this
    rwa [show (64 * k + i) / 64 = k by omega, show (64 * k + i) % 64 = i by omega] at this
  · have e : ∀ x, x < 18446744073709551616 → x.testBit i = false := fun x hx => Nat.testBit_lt_two_pow (Nat.lt_of_lt_of_le hx (show 2 ^ 64 ≤ 2 ^ i from Nat.pow_le_pow_right (by decide) (show 64 ≤ i by omega)))
    rw [e _ (hA k), e _ (hB k)]
theorem setV_eq {A B : Nat → Nat} (hA : OkS A) (hB : OkS B) (h : ∀ c, c < 256 → has A c = has B c) : setV A = setV B := by
  have e := words_eq hA hB h
  unfold setV
  rw [e 0 (by decide), e 1 (by decide), e 2 (by decide), e 3 (by decide)]

/-! ### How many -/

def p4 (d : Nat) : Nat := d % 2 + d / 2 % 2 + d / 4 % 2 + d / 8 % 2
def popd : Nat → Nat → Nat
  | 0, _ => 0
  | n + 1, x => p4 (x % 16) + popd n (x / 16)
def pop (x : Nat) : Nat := popd 16 x
def countS (A : Nat → Nat) : Nat := pop (A 0) + pop (A 1) + pop (A 2) + pop (A 3)
def cnt (f : Nat → Bool) : Nat → Nat
  | 0 => 0
  | n + 1 => cnt f n + if f n = true then 1 else 0

theorem testBit_ite (x i : Nat) : (if x.testBit i = true then 1 else 0) = x / 2 ^ i % 2 := by
  rw [Nat.testBit_eq_decide_div_mod_eq]
  rcases Nat.mod_two_eq_zero_or_one (x / 2 ^ i) with h | h <;> simp [h]
theorem cnt_congr {f g : Nat → Bool} : ∀ n, (∀ i, i < n → f i = g i) → cnt f n = cnt g n
  | 0, _ => rfl
  | n + 1, h => by rw [cnt, cnt, cnt_congr n fun i hi => h i (by omega), h n (by omega)]
theorem cnt_add (f : Nat → Bool) (m : Nat) : ∀ n, cnt f (m + n) = cnt f m + cnt (fun i => f (m + i)) n
  | 0 => rfl
  | n + 1 => by rw [← Nat.add_assoc, cnt, cnt_add f m n, cnt, Nat.add_assoc]
theorem popd_cnt : ∀ (n x : Nat), popd n x = cnt (fun i => x.testBit i) (4 * n)
  | 0, _ => rfl
  | n + 1, x => by
    rw [popd, popd_cnt n, show 4 * (n + 1) = 4 + 4 * n by omega, cnt_add]
    congr 1
    · simp only [cnt, testBit_ite, p4]
      omega
    · refine cnt_congr _ fun i _ => ?_
      rw [show x / 16 = x / 2 ^ 4 by rfl, Nat.testBit_div_two_pow, Nat.add_comm i 4]
theorem countS_cnt (A : Nat → Nat) : countS A = cnt (has A) 256 := by
  have e : ∀ k, k < 4 → pop (A k) = cnt (fun i => has A (64 * k + i)) 64 := fun k _ => by
    unfold pop
    rw [popd_cnt]
    refine cnt_congr _ fun i hi => ?_
    unfold has
    rw [show (64 * k + i) / 64 = k by omega, show (64 * k + i) % 64 = i by omega]
  have s1 : cnt (has A) 256 = cnt (has A) 64 + cnt (fun i => has A (64 + i)) 192 := cnt_add (has A) 64 192
  have s2 : cnt (fun i => has A (64 + i)) 192 = cnt (fun i => has A (64 + i)) 64 + cnt (fun i => has A (64 + (64 + i))) 128 := cnt_add (fun i => has A (64 + i)) 64 128
  have s3 : cnt (fun i => has A (64 + (64 + i))) 128 = cnt (fun i => has A (64 + (64 + i))) 64 + cnt (fun i => has A (64 + (64 + (64 + i)))) 64 := cnt_add (fun i => has A (64 + (64 + i))) 64 64
  unfold countS
  rw [e 0 (by decide), e 1 (by decide), e 2 (by decide), e 3 (by decide)]
  have t1 : cnt (fun i => has A (64 + (64 + i))) 64 = cnt (fun i => has A (64 * 2 + i)) 64 := cnt_congr _ fun i _ => by congr 1; omega
  have t2 : cnt (fun i => has A (64 + (64 + (64 + i)))) 64 = cnt (fun i => has A (64 * 3 + i)) 64 := cnt_congr _ fun i _ => by congr 1; omega
  have t3 : cnt (fun i => has A (64 * 0 + i)) 64 = cnt (has A) 64 := cnt_congr _ fun i _ => by congr 1; omega
  have t4 : cnt (fun i => has A (64 * 1 + i)) 64 = cnt (fun i => has A (64 + i)) 64 := rfl
  rw [t3, t4, ← t1, ← t2]
  omega
theorem cnt_both (f : Nat → Bool) : ∀ n, cnt f n + cnt (fun i => !f i) n = n
  | 0 => rfl
  | n + 1 => by
    have := cnt_both f n
    rw [cnt, cnt]
    by_cases h : f n = true
    · simp only [h, Bool.not_true, Bool.false_eq_true, if_false, if_true]; omega
    · simp only [Bool.not_eq_true] at h
      simp only [h, Bool.not_false, Bool.false_eq_true, if_false, if_true]; omega
theorem count_not (A : Nat → Nat) : countS A + countS (notS A) = 256 := by
  rw [countS_cnt, countS_cnt, cnt_congr (f := has (notS A)) (g := fun i => !has A i) 256 fun i _ => has_not A i]
  exact cnt_both _ 256
theorem count_le (A : Nat → Nat) : countS A ≤ 256 := by have := count_not A; omega
theorem pop_le (x : Nat) : pop x ≤ 64 := by
  unfold pop
  rw [popd_cnt, show 4 * 16 = 64 by decide]
  have := cnt_both (fun i => x.testBit i) 64
  omega
end Go.Proofs.Ytbehbbmhkkidfaa

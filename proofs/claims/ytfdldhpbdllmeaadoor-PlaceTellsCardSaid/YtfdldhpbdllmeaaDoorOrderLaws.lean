/-
  The order of float64s is a total one: it goes by a key (none for a NaN, else a whole number). No condition.
-/
import Derived.Test.YtfdldhpbdllmeaaDoorOrder
namespace Go.Proofs.YtfdldhpbdllmeaaDoor
open Go.RowKit Ieee

/-- What a datum is worth, in units of the least place; infinity is worth B. -/
def valD (B : Int) : Datum → Option Int
  | .nan .. => none
  | .infinity s => some (if s then -B else B)
  | .number s m i => some (signed s m (i + 1074).toNat)
def val (B : Int) (x : Nat) : Option Int := valD B (double.read x)
/-- B is more than any number of the format is worth. -/
def Great (B : Int) : Prop := ∀ (s : Bool) (m u : Nat), m < 9007199254740992 → u ≤ 2045 → -B < signed s m u ∧ signed s m u < B

theorem number_bounds (x : Nat) (s : Bool) (m : Nat) (i : Int) (h : double.read x = .number s m i) : -1074 ≤ i ∧ i ≤ 971 ∧ m < 9007199254740992 := by
  have hbin : double.binade = 4503599627370496 := by decide
  have hinf : double.infRung = 9218868437227405312 := by decide
  have hlp : double.leastPlace = -1074 := by decide
  unfold Format.read at h
  simp only [hbin, hinf, hlp] at h
  split at h
  · injection h with h1 h2 h3
    omega
  · split at h
    · injection h with h1 h2 h3
      omega
    · split at h <;> cases h

theorem signed_scale (s : Bool) (m u v : Nat) : signed s m (u + v) = signed s m u * ((2 ^ v : Nat) : Int) := by
  unfold signed
  cases s
  · simp only [Bool.false_eq_true, if_false, Nat.shiftLeft_eq, Nat.pow_add, ← Nat.mul_assoc, Int.natCast_mul]
  · simp only [if_true, Nat.shiftLeft_eq, Nat.pow_add, ← Nat.mul_assoc, Int.natCast_mul, Int.neg_mul]

theorem compare_scale (a b : Int) (p : Nat) (hp : 0 < p) : compare (a * (p : Int)) (b * (p : Int)) = compare a b := by
  have hp' : (0 : Int) < (p : Int) := by omega
  rcases Int.lt_trichotomy a b with h | h | h
  · rw [Int.compare_eq_lt.2 h, Int.compare_eq_lt]
    exact Int.mul_lt_mul_of_pos_right h hp'
  · subst h
    rw [Int.compare_eq_eq.2 rfl, Int.compare_eq_eq.2 rfl]
  · rw [Int.compare_eq_gt.2 h, Int.compare_eq_gt]
    exact Int.mul_lt_mul_of_pos_right h hp'

theorem great_some : ∃ B : Int, Great B := by
  obtain ⟨e, he⟩ : ∃ e : Nat, e = 2100 := ⟨_, rfl⟩
  refine ⟨((2 ^ e : Nat) : Int), fun s m u hm hu => ?_⟩
  have h1 : m * 2 ^ u < 2 ^ e := by
    have hm' : m < 2 ^ 53 := by rw [show (2 : Nat) ^ 53 = 9007199254740992 by decide]; exact hm
    have a : m * 2 ^ u < 2 ^ 53 * 2 ^ u := (Nat.mul_lt_mul_right (Nat.two_pow_pos u)).2 hm'
    rw [← Nat.pow_add] at a
    exact Nat.lt_of_lt_of_le a (Nat.pow_le_pow_right (by omega) (by omega))
  have h2 : ((m * 2 ^ u : Nat) : Int) < ((2 ^ e : Nat) : Int) := Int.ofNat_lt.2 h1
  have h3 : (0 : Int) ≤ ((m * 2 ^ u : Nat) : Int) := Int.natCast_nonneg _
  generalize ((2 ^ e : Nat) : Int) = B at h2
  unfold signed
  rw [Nat.shiftLeft_eq]
  generalize ((m * 2 ^ u : Nat) : Int) = V at h2 h3
  cases s
  · simp only [Bool.false_eq_true, if_false]
    omega
  · simp only [if_true]
    omega

def ordO (a b : Option Int) : Option Ordering := match a, b with
  | some a, some b => some (compare a b)
  | _, _ => none

theorem order_val (B : Int) (great : Great B) (x y : Nat) : double.order x y = ordO (val B x) (val B y) := by
  unfold Format.order val
  have bx := number_bounds x
  have by' := number_bounds y
  generalize double.read x = dx at bx
  generalize double.read y = dy at by'
  cases dx with
  | nan s t => cases dy <;> rfl
  | infinity s =>
    cases dy with
    | nan t u => rfl
    | infinity t =>
      have hb : -B < B := Int.lt_trans (great false 0 0 (by omega) (by omega)).1 (great false 0 0 (by omega) (by omega)).2
      simp only [Datum.order, valD, ordO]
      cases s <;> cases t <;> simp only [Bool.toNat_true, Bool.toNat_false, if_true, if_false, Bool.false_eq_true] <;> congr 1
      · rw [Nat.compare_eq_eq.2 rfl, Int.compare_eq_eq.2 rfl]
      · rw [Nat.compare_eq_gt.2 (by omega), Int.compare_eq_gt.2 hb]
      · rw [Nat.compare_eq_lt.2 (by omega), Int.compare_eq_lt.2 hb]
      · rw [Nat.compare_eq_eq.2 rfl, Int.compare_eq_eq.2 rfl]
    | number t n j =>
      obtain ⟨h1, h2, h3⟩ := by' t n j rfl
      have hs := great t n (j + 1074).toNat h3 (by omega)
      simp only [Datum.order, valD, ordO]
      cases s <;> simp only [if_true, if_false, Bool.false_eq_true] <;> congr 1
      · rw [Int.compare_eq_gt.2 hs.2]
      · rw [Int.compare_eq_lt.2 hs.1]
  | number s m i =>
    obtain ⟨k1, k2, k3⟩ := bx s m i rfl
    cases dy with
    | nan t u => rfl
    | infinity t =>
      have hs := great s m (i + 1074).toNat k3 (by omega)
      simp only [Datum.order, valD, ordO]
      cases t <;> simp only [if_true, if_false, Bool.false_eq_true] <;> congr 1
      · rw [Int.compare_eq_lt.2 hs.2]
      · rw [Int.compare_eq_gt.2 hs.1]
    | number t n j =>
      obtain ⟨h1, h2, h3⟩ := by' t n j rfl
      simp only [Datum.order, valD, ordO]
      congr 1
      have e1 : (i + 1074).toNat = (i - min i j).toNat + (min i j + 1074).toNat := by omega
      have e2 : (j + 1074).toNat = (j - min i j).toNat + (min i j + 1074).toNat := by omega
      rw [e1, e2, signed_scale, signed_scale, compare_scale _ _ _ (Nat.two_pow_pos _)]

/-- -1, 0, 1 by the keys. -/
def ordK (a b : Option Int) : Int := match a, b with
  | none, none => 0
  | none, some _ => -1
  | some _, none => 1
  | some a, some b => if a < b then -1 else if b < a then 1 else 0

theorem ordW_val (B : Int) (great : Great B) (x y : Nat) : ordW x y = ordK (val B x) (val B y) := by
  have e : FloatKind.f64.format = double := rfl
  unfold ordW nanW
  rw [e, order_val B great x x, order_val B great y y, order_val B great x y]
  cases val B x with
  | none => cases val B y <;> simp [ordO, ordK]
  | some a =>
    cases val B y with
    | none => simp [ordO, ordK]
    | some b =>
      simp only [ordO, ordK, Int.compare_eq_eq.2 rfl]
      rcases Int.lt_trichotomy a b with h | h | h
      · simp [Int.compare_eq_lt.2 h, h]
      · subst h
        simp
      · simp [Int.compare_eq_gt.2 h, h]; omega

theorem ordK_anti (a b : Option Int) : ordK b a = -ordK a b := by
  cases a <;> cases b <;> simp only [ordK] <;> (repeat' split) <;> omega
theorem ordK_same (a : Option Int) : ordK a a = 0 := by
  cases a <;> simp [ordK]
theorem ordK_trans (a b c : Option Int) : (ordK a b ≤ 0 → ordK b c ≤ 0 → ordK a c ≤ 0) ∧ (ordK a b < 0 → ordK b c ≤ 0 → ordK a c < 0) ∧ (ordK a b ≤ 0 → ordK b c < 0 → ordK a c < 0) := by
  cases a <;> cases b <;> cases c <;> simp only [ordK] <;> (repeat' split) <;> omega

theorem ordC_anti (a b c d : Nat) : ordC c d a b = -ordC a b c d := by
  obtain ⟨B, great⟩ := great_some
  unfold ordC
  simp only [ordW_val B great]
  have h1 := ordK_anti (val B a) (val B c)
  have h2 := ordK_anti (val B b) (val B d)
  repeat' split
  all_goals omega
theorem ordC_same (a b : Nat) : ordC a b a b = 0 := by
  obtain ⟨B, great⟩ := great_some
  unfold ordC
  simp only [ordW_val B great, ordK_same, if_true]
theorem ordC_range (a b c d : Nat) : -1 ≤ ordC a b c d ∧ ordC a b c d ≤ 1 := by
  unfold ordC
  have h1 := ordW_cases a c
  have h2 := ordW_cases b d
  split <;> omega
theorem ordC_trans (a b c d e f : Nat) : (ordC a b c d ≤ 0 → ordC c d e f ≤ 0 → ordC a b e f ≤ 0) ∧ (ordC a b c d < 0 → ordC c d e f ≤ 0 → ordC a b e f < 0) := by
  obtain ⟨B, great⟩ := great_some
  unfold ordC
  simp only [ordW_val B great]
  have t1 := ordK_trans (val B a) (val B c) (val B e)
  have t2 := ordK_trans (val B b) (val B d) (val B f)
  have u1 := ordK_trans (val B e) (val B c) (val B a)
  have a1 := ordK_anti (val B a) (val B c)
  have a2 := ordK_anti (val B c) (val B e)
  have a3 := ordK_anti (val B a) (val B e)
  generalize ordK (val B a) (val B c) = p at *
  generalize ordK (val B c) (val B e) = q at *
  generalize ordK (val B a) (val B e) = r at *
  generalize ordK (val B b) (val B d) = p' at *
  generalize ordK (val B d) (val B f) = q' at *
  generalize ordK (val B b) (val B f) = r' at *
  rw [a1, a2, a3] at u1
  clear a1 a2 a3
  repeat' split
  all_goals omega
end Go.Proofs.YtfdldhpbdllmeaaDoor

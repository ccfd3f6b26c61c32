/-
  Sums of float64s whose operands may be anything: what a sum is worth; a sum with zero is worth what the other operand is; a NaN's bits are drawn. No condition.
-/
import Derived.Test.YtfdldhpbdllmeaaDoorOrderLaws
namespace Go.Proofs.YtfdldhpbdllmeaaDoor
open Go.RowKit Ieee

theorem read_word (s : Bool) (g : Nat) (hg : g < 9223372036854775808) : double.read (double.word s g) =
    if g < 4503599627370496 then .number s g (-1074) else if g < 9218868437227405312 then .number s (4503599627370496 + g % 4503599627370496) (-1074 + ((g / 4503599627370496 - 1 : Nat) : Int))
    else if g = 9218868437227405312 then .infinity s else .nan s (g - 9218868437227405312) := by
  have hsw : double.signWeight = 9223372036854775808 := by decide
  have hbin : double.binade = 4503599627370496 := by decide
  have hinf : double.infRung = 9218868437227405312 := by decide
  have hlp : double.leastPlace = -1074 := by decide
  unfold Format.read Format.word
  simp only [hsw, hbin, hinf, hlp]
  cases s
  · simp only [Bool.false_eq_true, if_false]
    rw [Nat.div_eq_of_lt hg, Nat.mod_eq_of_lt hg]
    rfl
  · simp only [if_true]
    have h1 : (9223372036854775808 + g) / 9223372036854775808 = 1 := by omega
    have h2 : (9223372036854775808 + g) % 9223372036854775808 = g := by omega
    rw [h1, h2]
    rfl

theorem cut_exact' (s : Bool) (m d : Nat) (h : d ≤ (m * 2 ^ d).log2 + 2) : Toward.even.cut s (m * 2 ^ d) d = m := by
  unfold Toward.cut
  simp only [Nat.min_eq_left h, Nat.shiftLeft_eq, Nat.one_mul]
  have hp : 0 < 2 ^ d := Nat.two_pow_pos d
  rw [Nat.mul_mod_left, Nat.mul_div_cancel _ hp]
  have h2 : (2 ^ d == 2 * 0) = false := by
    rw [beq_eq_false_iff_ne]; omega
  simp [h2]

theorem signed_neg (s : Bool) (m u : Nat) : signed s m u = if s then -((m * 2 ^ u : Nat) : Int) else ((m * 2 ^ u : Nat) : Int) := by
  unfold signed
  rw [Nat.shiftLeft_eq]

theorem signed_of_mul (s : Bool) (m n u v : Nat) (h : m * 2 ^ u = n * 2 ^ v) : signed s m u = signed s n v := by
  rw [signed_neg, signed_neg, h]

/-- A number that the format has, written and read again, is worth the same. -/
theorem val_write (B : Int) (s : Bool) (m u : Nat) (hm : m < 9007199254740992) (hu : u ≤ 2045) :
    val B (double.nearest s (m * 2 ^ u) (-1074)) = some (signed s m u) := by
  unfold val Format.nearest
  by_cases h0 : m = 0
  · subst h0
    rw [Nat.zero_mul, if_pos rfl, read_word s 0 (by omega), if_pos (by omega)]
    simp [valD, signed_neg]
  have hne : m * 2 ^ u ≠ 0 := Nat.mul_ne_zero h0 (by have := Nat.two_pow_pos u; omega)
  have hL := log2_le52 m h0 hm
  have hlog := log2_scale m u h0
  rw [if_neg hne]
  have hlp : double.leastPlace = -1074 := by decide
  have hfb : double.fractionBits = 52 := rfl
  have hbin : double.binade = 4503599627370496 := by decide
  have hinf : double.infRung = 9218868437227405312 := by decide
  obtain ⟨d, hd⟩ : ∃ d, d = m.log2 + u - 52 := ⟨_, rfl⟩
  have hdu : d ≤ u := by omega
  have hlast : max (-1074 + ((m * 2 ^ u).log2 : Int) - (double.fractionBits : Nat)) (-1074) = -1074 + (d : Int) := by
    rw [hfb, hlog]; omega
  simp only [hlp, hlast]
  have e1 : ((-1074 : Int) - (-1074 + (d : Int))).toNat = 0 := by omega
  have e2 : ((-1074 : Int) + (d : Int) - -1074).toNat = d := by omega
  rw [e1, e2, Nat.shiftLeft_eq, Nat.pow_zero, Nat.mul_one, hbin, hinf]
  obtain ⟨K, hK⟩ : ∃ K, K = m * 2 ^ (u - d) := ⟨_, rfl⟩
  have hMK : m * 2 ^ u = K * 2 ^ d := by
    rw [hK, Nat.mul_assoc, ← Nat.pow_add, show u - d + d = u by omega]
  rw [hMK] at hlog ⊢
  rw [cut_exact' s K d (by omega)]
  have hK0 : K ≠ 0 := by rw [hK]; exact Nat.mul_ne_zero h0 (by have := Nat.two_pow_pos (u - d); omega)
  have hKlog : K.log2 = m.log2 + (u - d) := by rw [hK, log2_scale m (u - d) h0]
  have hKup : K < 9007199254740992 := by
    have h2 := Nat.lt_log2_self (n := K)
    have h3 : (2 : Nat) ^ (K.log2 + 1) ≤ 2 ^ 53 := Nat.pow_le_pow_right (by omega) (by omega)
    rw [show (2 : Nat) ^ 53 = 9007199254740992 by decide] at h3
    omega
  have hKlo : 0 < d → 4503599627370496 ≤ K := by
    intro hd0
    have h1 := Nat.log2_self_le hK0
    have h3 : (2 : Nat) ^ 52 ≤ 2 ^ K.log2 := Nat.pow_le_pow_right (by omega) (by omega)
    rw [show (2 : Nat) ^ 52 = 4503599627370496 by decide] at h3
    omega
  have hdle : d ≤ 2045 := by omega
  rw [Nat.min_eq_left (by omega), read_word s _ (by omega)]
  by_cases hg : d * 4503599627370496 + K < 4503599627370496
  · have hd0 : d = 0 := by omega
    rw [if_pos hg]
    simp only [valD]
    congr 1
    apply signed_of_mul
    rw [hMK, hd0]
    simp
  · rw [if_neg hg, if_pos (by omega)]
    simp only [valD]
    congr 1
    apply signed_of_mul
    rw [hMK]
    have hlo : 4503599627370496 ≤ K := by
      by_cases hd0 : d = 0
      · rw [hd0] at hg; omega
      · exact hKlo (by omega)
    have g0 : K / 4503599627370496 = 1 := Nat.div_eq_of_lt_le (by omega) (by omega)
    have g1 : (d * 4503599627370496 + K) / 4503599627370496 = d + 1 := by
      rw [Nat.add_comm, Nat.add_mul_div_right _ _ (by omega), g0, Nat.add_comm]
    have g2 : (d * 4503599627370496 + K) % 4503599627370496 = K - 4503599627370496 := by
      rw [Nat.add_comm, Nat.add_mul_mod_self_right, Nat.mod_eq_sub_mod hlo, Nat.mod_eq_of_lt (by omega)]
    have a1 : 4503599627370496 + (K - 4503599627370496) = K := by omega
    have a2 : ((-1074 : Int) + ((d + 1 - 1 : Nat) : Int) + 1074).toNat = d := by omega
    rw [g1, g2, a1, a2]

theorem read_zero : double.read 0 = .number false 0 (-1074) := by decide

/-- What a sum may be: the sum, or any NaN if there is none. -/
def IsSum (x y r : Nat) : Prop := double.add x y = some r ∨ (double.add x y = none ∧ nanW r = true)

theorem nanW_val (B : Int) (great : Great B) (x : Nat) : nanW x = true ↔ val B x = none := by
  unfold nanW
  rw [show FloatKind.f64.format = double from rfl, order_val B great]
  cases val B x <;> simp [ordO]

theorem sum_zero (B : Int) (great : Great B) (x r : Nat) (h : IsSum x 0 r) : val B r = val B x := by
  unfold IsSum Format.add at h
  rw [read_zero] at h
  have bx := number_bounds x
  unfold val
  cases hd : double.read x with
  | nan s t =>
    rw [hd] at h
    rcases h with h | ⟨_, h⟩
    · simp [Datum.sum] at h
    · have := (nanW_val B great r).1 h
      unfold val at this
      rw [this]; rfl
  | infinity s =>
    rw [hd] at h
    rcases h with h | ⟨h, _⟩
    · simp only [Datum.sum, Option.map_some, Format.write, Option.some.injEq] at h
      rw [← h, show double.infRung = 9218868437227405312 by decide, read_word s _ (by omega)]
      simp
    · simp [Datum.sum] at h
  | number s m i =>
    obtain ⟨k1, k2, k3⟩ := bx s m i hd
    rw [hd] at h
    rcases h with h | ⟨h, _⟩
    · simp only [Datum.sum, Option.map_some, Format.write, Option.some.injEq] at h
      have hmin : min i (-1074) = -1074 := by omega
      rw [hmin, show (i - -1074).toNat = (i + 1074).toNat by congr 1, show signed false 0 ((-1074 : Int) - -1074).toNat = 0 by rw [signed_neg]; simp, Int.add_zero] at h
      have hna : (signed s m (i + 1074).toNat).natAbs = m * 2 ^ (i + 1074).toNat := by
        rw [signed_neg]
        cases s
        · exact Int.natAbs_natCast _
        · rw [if_pos rfl, Int.natAbs_neg, Int.natAbs_natCast]
      rw [hna] at h
      rw [← h]
      have hw := val_write B (if signed s m (i + 1074).toNat = 0 then s && false else decide (signed s m (i + 1074).toNat < 0)) m (i + 1074).toNat k3 (by omega)
      unfold val at hw
      rw [hw]
      simp only [valD]
      congr 1
      rw [signed_neg s, signed_neg]
      generalize m * 2 ^ (i + 1074).toNat = M
      cases s
      · by_cases hM : M = 0
        · subst hM; simp
        · simp [hM]
          intro h
          omega
      · by_cases hM : M = 0
        · subst hM; simp
        · have : -(M : Int) < 0 := by omega
          simp [hM]
    · simp [Datum.sum] at h

theorem sum_same (x y r r' : Nat) (h : IsSum x y r) (k : IsSum x y r') : ordW r r' = 0 := by
  obtain ⟨B, great⟩ := great_some
  rw [ordW_val B great]
  rcases h with h | ⟨h, h1⟩
  · rcases k with k | ⟨k, _⟩
    · rw [h] at k
      cases k
      exact ordK_same _
    · rw [h] at k; cases k
  · rcases k with k | ⟨_, k1⟩
    · rw [h] at k; cases k
    · rw [(nanW_val B great r).1 h1, (nanW_val B great r').1 k1]; rfl
theorem sum_zero_same (x r : Nat) (h : IsSum x 0 r) : ordW r x = 0 := by
  obtain ⟨B, great⟩ := great_some
  rw [ordW_val B great, sum_zero B great x r h]
  exact ordK_same _
theorem ordC_zero (a b c d : Nat) (h : ordW a c = 0) (k : ordW b d = 0) : ordC a b c d = 0 := by
  unfold ordC
  rw [if_pos h, k]
theorem ordW_same (a : Nat) : ordW a a = 0 := by
  obtain ⟨B, great⟩ := great_some
  rw [ordW_val B great]
  exact ordK_same _

/-- The bits of a sum, in a world that draws a NaN's bits; that world behind it. -/
def sumB (x y : Nat) (w : World) : Nat := match double.add x y with
  | some r => r
  | none => (Question.nanBits .f64 x y).cut (w.tape w.drawn (.nanBits .f64 x y))
def sumW (x y : Nat) (w : World) : World := match double.add x y with
  | some _ => w
  | none => w.drew

theorem nan_cut (x y t : Nat) : nanW ((Question.nanBits .f64 x y).cut t) = true := by
  obtain ⟨B, great⟩ := great_some
  rw [nanW_val B great]
  unfold val
  simp only [Question.cut]
  have e : t % 2 * 2 ^ 63 + 9218868437227405312 + 1 + t / 2 % (2 ^ 52 - 1) = double.word (t % 2 == 1) (9218868437227405312 + 1 + t / 2 % 4503599627370495) := by
    unfold Format.word
    rw [show double.signWeight = 9223372036854775808 by decide]
    rcases Nat.mod_two_eq_zero_or_one t with h | h <;> rw [h] <;> simp <;> omega
  rw [e, read_word _ _ (by omega), if_neg (by omega), if_neg (by omega), if_neg (by omega)]
  rfl

theorem sumB_is (x y : Nat) (w : World) : IsSum x y (sumB x y w) := by
  unfold IsSum sumB
  cases h : double.add x y with
  | some r => exact .inl rfl
  | none => exact .inr ⟨rfl, nan_cut _ _ _⟩
theorem sumW_below (x y : Nat) (w v : World) (b : Nat) (h : Below b v w) : Below b v (sumW x y w) := by
  unfold sumW
  cases double.add x y with
  | some r => exact h
  | none => exact h.drew

section
variable {P : Program}
theorem run_sum (x y : Nat) (w : World) : (Op.floatArith .add .f64 x y).run P w = .ok (.float .f64 (sumB x y w)) (sumW x y w) := by
  unfold sumB sumW
  have e : FloatKind.f64.format = double := rfl
  cases h : double.add x y with
  | some r => simp [Op.floatArith, e, h]
  | none => simp [Op.floatArith, e, h, Question.forced]
theorem run_sum_float (t : TypeId) (x y : Nat) (w : World) : (binOp .add t (.float .f64 x) (.float .f64 y)).run P w = .ok (.float .f64 (sumB x y w)) (sumW x y w) := by
  simp [binOp, run_sum]
theorem run_sum_complex (t : TypeId) (a b c d : Nat) (w : World) : (binOp .add t (.complex .f64 a b) (.complex .f64 c d)).run P w = .ok (.complex .f64 (sumB a c w) (sumB b d (sumW a c w))) (sumW b d (sumW a c w)) := by
  simp [binOp, Op.complexOp, Op.Complex.arith, run_sum]
end
end Go.Proofs.YtfdldhpbdllmeaaDoor

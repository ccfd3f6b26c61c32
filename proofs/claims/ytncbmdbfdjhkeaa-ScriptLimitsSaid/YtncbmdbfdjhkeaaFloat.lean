/-
  Whole numbers as float64s: sums and comparisons of small whole numbers are exact. Conditions: the numbers lie below 2^53.
-/
import Derived.Laws.FloatArith
namespace Go.Proofs.Ytncbmdbfdjhkeaa
open Go Ieee

theorem log2_scale (n k : Nat) (h : n ≠ 0) : (n * 2 ^ k).log2 = n.log2 + k := by
  have hk : 0 < 2 ^ k := Nat.two_pow_pos k
  rw [Nat.log2_eq_iff (Nat.mul_ne_zero h (by omega))]
  have h1 := Nat.log2_self_le h
  have h2 := Nat.lt_log2_self (n := n)
  constructor
  · rw [Nat.pow_add]
    exact Nat.mul_le_mul_right _ h1
  · rw [Nat.add_right_comm, Nat.pow_add]
    exact (Nat.mul_lt_mul_right hk).2 h2

theorem log2_le52 (n : Nat) (h : n ≠ 0) (hn : n < 9007199254740992) : n.log2 ≤ 52 := by
  have : n.log2 < 53 := (Nat.log2_lt h).2 (by omega)
  omega

/-- The word of a whole number: its binade and its fraction. -/
def rungOf (n : Nat) : Nat := if n = 0 then 0 else (n.log2 + 1022) * 2 ^ 52 + n * 2 ^ (52 - n.log2)

theorem cut_exact (m d : Nat) : Toward.even.cut false (m * 2 ^ d) d = m ∨ d > (m * 2 ^ d).log2 + 2 := by
  by_cases hd : d ≤ (m * 2 ^ d).log2 + 2
  · left
    unfold Toward.cut
    simp only [Nat.min_eq_left hd, Nat.shiftLeft_eq, Nat.one_mul]
    have hp : 0 < 2 ^ d := Nat.two_pow_pos d
    rw [Nat.mul_mod_left, Nat.mul_div_cancel _ hp]
    have h2 : (2 ^ d == 2 * 0) = false := by
      rw [beq_eq_false_iff_ne]; omega
    simp [h2]
  · right; omega

theorem nearest_whole (n k : Nat) (hn : n < 9007199254740992) :
    double.nearest false (n * 2 ^ k) (-(k : Int)) = rungOf n := by
  unfold Format.nearest rungOf
  by_cases h0 : n = 0
  · subst h0; simp [Format.word]
  have hne : n * 2 ^ k ≠ 0 := Nat.mul_ne_zero h0 (by have := Nat.two_pow_pos k; omega)
  have hL := log2_le52 n h0 hn
  rw [if_neg hne, if_neg h0, log2_scale n k h0]
  have hlp : double.leastPlace = -1074 := by decide
  have hfb : double.fractionBits = 52 := rfl
  have hlast : max (-(k : Int) + ((n.log2 + k : Nat) : Int) - (double.fractionBits : Nat)) (-1074) = (n.log2 : Int) - 52 := by
    rw [hfb]; omega
  simp only [hlp, hlast]
  have hbin : double.binade = 2 ^ 52 := rfl
  have hinf : double.infRung = 2047 * 2 ^ 52 := by decide
  have hkept : Toward.even.cut false ((n * 2 ^ k) <<< (-(k : Int) - ((n.log2 : Int) - 52)).toNat) ((n.log2 : Int) - 52 - -(k : Int)).toNat = n * 2 ^ (52 - n.log2) := by
    by_cases hc : k ≤ 52 - n.log2
    · have e1 : (-(k : Int) - ((n.log2 : Int) - 52)).toNat = 52 - n.log2 - k := by omega
      have e2 : ((n.log2 : Int) - 52 - -(k : Int)).toNat = 0 := by omega
      rw [e1, e2, Nat.shiftLeft_eq, Nat.mul_assoc, ← Nat.pow_add, show k + (52 - n.log2 - k) = 52 - n.log2 by omega]
      have := cut_exact (n * 2 ^ (52 - n.log2)) 0
      rcases this with h | h
      · simpa using h
      · omega
    · have e1 : (-(k : Int) - ((n.log2 : Int) - 52)).toNat = 0 := by omega
      have e2 : ((n.log2 : Int) - 52 - -(k : Int)).toNat = k - (52 - n.log2) := by omega
      rw [e1, e2, Nat.shiftLeft_eq, Nat.pow_zero, Nat.mul_one]
      have hs : n * 2 ^ k = n * 2 ^ (52 - n.log2) * 2 ^ (k - (52 - n.log2)) := by
        rw [Nat.mul_assoc, ← Nat.pow_add, show 52 - n.log2 + (k - (52 - n.log2)) = k by omega]
      have := cut_exact (n * 2 ^ (52 - n.log2)) (k - (52 - n.log2))
      rw [← hs, log2_scale n k h0] at this
      rcases this with h | h
      · exact h
      · omega
  rw [hkept, hbin, hinf]
  have e3 : ((n.log2 : Int) - 52 - -1074).toNat = n.log2 + 1022 := by omega
  rw [e3]
  have hup : n * 2 ^ (52 - n.log2) < 2 ^ 53 := by
    have h2 := Nat.lt_log2_self (n := n)
    have hp : 0 < 2 ^ (52 - n.log2) := Nat.two_pow_pos _
    have := (Nat.mul_lt_mul_right hp).2 h2
    rwa [← Nat.pow_add, show n.log2 + 1 + (52 - n.log2) = 53 by omega] at this
  unfold Format.word
  simp only [Bool.false_eq_true, if_false]
  rw [Nat.min_eq_left]
  generalize n * 2 ^ (52 - n.log2) = m at hup
  rw [show (2 : Nat) ^ 53 = 9007199254740992 by decide] at hup
  rw [show (2 : Nat) ^ 52 = 4503599627370496 by decide]
  omega

theorem read_rung (n : Nat) (hn : n < 9007199254740992) : ∃ j : Nat, double.read (rungOf n) = .number false (n * 2 ^ j) (-(j : Int)) := by
  unfold rungOf
  by_cases h0 : n = 0
  · subst h0
    have h : ∀ j : Nat, j = 1074 → double.read 0 = .number false (0 * 2 ^ j) (-(j : Int)) := fun j hj => by rw [Nat.zero_mul, hj]; decide
    obtain ⟨j, hj⟩ : ∃ j : Nat, j = 1074 := ⟨_, rfl⟩
    exact ⟨j, h j hj⟩
  rw [if_neg h0]
  have hL := log2_le52 n h0 hn
  have hlo : 2 ^ 52 ≤ n * 2 ^ (52 - n.log2) := by
    have h1 := Nat.log2_self_le h0
    have := Nat.mul_le_mul_right (2 ^ (52 - n.log2)) h1
    rwa [← Nat.pow_add, show n.log2 + (52 - n.log2) = 52 by omega] at this
  have hup : n * 2 ^ (52 - n.log2) < 2 ^ 53 := by
    have h2 := Nat.lt_log2_self (n := n)
    have hp : 0 < 2 ^ (52 - n.log2) := Nat.two_pow_pos _
    have := (Nat.mul_lt_mul_right hp).2 h2
    rwa [← Nat.pow_add, show n.log2 + 1 + (52 - n.log2) = 53 by omega] at this
  refine ⟨52 - n.log2, ?_⟩
  generalize hm : n * 2 ^ (52 - n.log2) = m at hlo hup
  have hsw : double.signWeight = 9223372036854775808 := by decide
  have hbin : double.binade = 4503599627370496 := by decide
  have hinf : double.infRung = 9218868437227405312 := by decide
  have hlp : double.leastPlace = -1074 := by decide
  have p52 : (2 : Nat) ^ 52 = 4503599627370496 := by decide
  have p53 : (2 : Nat) ^ 53 = 9007199254740992 := by decide
  rw [p52] at hlo
  rw [p53] at hup
  have hw : (n.log2 + 1022) * 2 ^ 52 + m < 9223372036854775808 := by rw [p52]; omega
  unfold Format.read
  simp only [hsw, hbin, hinf, hlp]
  rw [Nat.div_eq_of_lt hw, Nat.mod_eq_of_lt hw, p52]
  have c1 : ¬ (n.log2 + 1022) * 4503599627370496 + m < 4503599627370496 := by omega
  have c2 : (n.log2 + 1022) * 4503599627370496 + m < 9218868437227405312 := by omega
  rw [if_neg c1, if_pos c2]
  have d1 : ((n.log2 + 1022) * 4503599627370496 + m) % 4503599627370496 = m - 4503599627370496 := by omega
  have d2 : ((n.log2 + 1022) * 4503599627370496 + m) / 4503599627370496 = n.log2 + 1023 := by omega
  rw [d1, d2]
  have e1 : 4503599627370496 + (m - 4503599627370496) = m := by omega
  have e2 : (-1074 : Int) + ((n.log2 + 1023 - 1 : Nat) : Int) = -((52 - n.log2 : Nat) : Int) := by omega
  rw [e1, e2]
  rfl

theorem signed_false (m u : Nat) : signed false m u = ((m * 2 ^ u : Nat) : Int) := by
  simp [signed, Nat.shiftLeft_eq]

theorem scaled (a j l : Nat) : (a * 2 ^ j) * 2 ^ ((-(j : Int) - min (-(j : Int)) (-(l : Int))).toNat) = a * 2 ^ (max j l) := by
  rw [Nat.mul_assoc, ← Nat.pow_add, show j + (-(j : Int) - min (-(j : Int)) (-(l : Int))).toNat = max j l by omega]

theorem rung_add (a b : Nat) (h : a + b < 9007199254740992) : double.add (rungOf a) (rungOf b) = some (rungOf (a + b)) := by
  obtain ⟨j, ra⟩ := read_rung a (by omega)
  obtain ⟨l, rb⟩ := read_rung b (by omega)
  unfold Format.add
  rw [ra, rb]
  unfold Datum.sum
  simp only [signed_false, scaled]
  rw [show min (-(j : Int)) (-(l : Int)) = min (-(l : Int)) (-(j : Int)) by omega, scaled]
  have hm : min (-(l : Int)) (-(j : Int)) = -((max j l : Nat) : Int) := by omega
  have ht : ((a * 2 ^ (max j l) : Nat) : Int) + ((b * 2 ^ (max l j) : Nat) : Int) = (((a + b) * 2 ^ (max j l) : Nat) : Int) := by
    rw [Nat.max_comm l j, Nat.add_mul, Int.natCast_add]
  rw [ht, hm, Int.natAbs_natCast]
  have hs : (if (((a + b) * 2 ^ (max j l) : Nat) : Int) = 0 then (false && false) else decide ((((a + b) * 2 ^ (max j l) : Nat) : Int) < 0)) = false := by
    split
    · rfl
    · exact decide_eq_false (Int.not_lt.2 (Int.natCast_nonneg _))
  rw [hs]
  simp only [Option.map_some, Format.write]
  rw [nearest_whole (a + b) (max j l) h]

theorem rung_order (a b : Nat) (ha : a < 9007199254740992) (hb : b < 9007199254740992) : double.order (rungOf a) (rungOf b) = some (compare a b) := by
  obtain ⟨j, ra⟩ := read_rung a ha
  obtain ⟨l, rb⟩ := read_rung b hb
  unfold Format.order
  rw [ra, rb]
  unfold Datum.order
  simp only [signed_false, scaled]
  rw [show min (-(j : Int)) (-(l : Int)) = min (-(l : Int)) (-(j : Int)) by omega, scaled, Nat.max_comm l j]
  have hp : 0 < 2 ^ (max j l) := Nat.two_pow_pos _
  congr 1
  rcases Nat.lt_trichotomy a b with h | h | h
  · have := (Nat.mul_lt_mul_right hp).2 h
    rw [Nat.compare_eq_lt.2 h, Int.compare_eq_lt]
    exact Int.ofNat_lt.2 this
  · subst h
    rw [Nat.compare_eq_eq.2 rfl, Int.compare_eq_eq]
  · have := (Nat.mul_lt_mul_right hp).2 h
    rw [Nat.compare_eq_gt.2 h, Int.compare_eq_gt]
    exact Int.ofNat_lt.2 this

theorem floatOfInt_nat (n : Nat) (hn : n < 9007199254740992) : floatOfInt .f64 (n : Int) = rungOf n := by
  have := nearest_whole n 0 hn
  simp at this
  simp [floatOfInt, FloatKind.nearest, FloatKind.encode, FloatKind.format, Format.write]
  rw [show decide ((n : Int) < 0) = false from decide_eq_false (Int.not_lt.2 (Int.natCast_nonneg _))]
  exact this

theorem rung_wf (n : Nat) (hn : n < 9007199254740992) : (Lit.float .f64 (rungOf n)).wf = true := by
  rw [← floatOfInt_nat n hn]; exact floatOfInt_wf _ _

end Go.Proofs.Ytncbmdbfdjhkeaa

/-
  The walks of place.Text and the reference's Text at any word: the same text from both; place.Text may draw and lay new blocks. Condition: the listed table holds what the program's text lays.
-/
import Derived.Test.YtfdldhpbdllmeaaDoorDigits
import Derived.Test.YtfdldhpbdllmeaaDoorSum
import Derived.Lib.AppendIntMem
namespace Go.Proofs.YtfdldhpbdllmeaaDoor
open Go.RowKit Ieee

theorem read_top : double.read 4845873199050653696 = .number false 4503599627370496 1 := by decide

/-- A float from 0 to 2^53 has a whole number that it is cut to. -/
theorem toInt_some (x : Nat) (h1 : (FloatKind.f64.format.order x 0 == some .gt || FloatKind.f64.format.order x 0 == some .eq) = true)
    (h2 : (FloatKind.f64.format.order x 4845873199050653696 == some .lt || FloatKind.f64.format.order x 4845873199050653696 == some .eq) = true) :
    ∃ n : Nat, n ≤ 9007199254740992 ∧ floatToIntVal .f64 x .i64 = some (n : Int) := by
  have e : FloatKind.f64.format = double := rfl
  have bx := number_bounds x
  rw [e] at h1 h2
  unfold Format.order at h1 h2
  rw [read_zero] at h1
  rw [read_top] at h2
  unfold floatToIntVal FloatKind.decode
  rw [e]
  cases hd : double.read x with
  | nan s t => rw [hd] at h1; simp [Datum.order] at h1
  | infinity s =>
    rw [hd] at h1 h2
    cases s <;> simp [Datum.order] at h1 h2
  | number s m i =>
    obtain ⟨k1, k2, k3⟩ := bx s m i hd
    rw [hd] at h1 h2
    simp only [Datum.order] at h1 h2
    have z0 : ∀ u, signed false 0 u = 0 := by intro u; rw [signed_neg]; simp
    rw [z0] at h1
    have hV : 0 ≤ signed s m (i - min i (-1074)).toNat := by
      generalize signed s m (i - min i (-1074)).toNat = V at h1
      rcases Int.lt_trichotomy V 0 with h | h | h
      · rw [Int.compare_eq_lt.2 h] at h1; simp at h1
      · omega
      · omega
    have hU : signed s m (i - min i 1).toNat ≤ signed false 4503599627370496 (1 - min i 1).toNat := by
      generalize signed s m (i - min i 1).toNat = V at h2
      generalize signed false 4503599627370496 (1 - min i 1).toNat = U at h2
      rcases Int.lt_trichotomy V U with h | h | h
      · omega
      · omega
      · rw [Int.compare_eq_gt.2 h] at h2; simp at h2
    rw [signed_neg] at hV hU
    rw [signed_neg] at hU
    simp only [Bool.false_eq_true, if_false] at hU
    have key : ∃ n : Nat, n ≤ 9007199254740992 ∧ (Datum.number s m i).toInt .zero = some (n : Int) := by
      unfold Datum.toInt Datum.integral
      simp only
      have hcut : Toward.zero.cut s (m <<< i.toNat) (-i).toNat = (m <<< i.toNat) / (1 <<< min (-i).toNat ((m <<< i.toNat).log2 + 2)) := by
        unfold Toward.cut
        simp
      rw [hcut]
      cases s
      · refine ⟨_, ?_, by rw [signed_neg]; simp; rfl⟩
        simp only [Bool.false_eq_true, if_false] at hU
        have hU' : m * 2 ^ (i - min i 1).toNat ≤ 4503599627370496 * 2 ^ (1 - min i 1).toNat := Int.ofNat_le.1 hU
        refine Nat.le_trans (Nat.div_le_self _ _) ?_
        rw [Nat.shiftLeft_eq]
        by_cases hi : 1 ≤ i
        · obtain ⟨q, hq⟩ : ∃ q, (i - 1).toNat = q := ⟨_, rfl⟩
          rw [show min i 1 = 1 by omega, hq, show ((1 : Int) - 1).toNat = 0 by rfl, Nat.pow_zero, Nat.mul_one] at hU'
          rw [show i.toNat = q + 1 by omega, Nat.pow_succ, ← Nat.mul_assoc]
          omega
        · rw [show i.toNat = 0 by omega]
          simp
          omega
      · have hm : m = 0 := by
          simp only [if_true] at hV
          have : m * 2 ^ (i - min i (-1074)).toNat = 0 := by omega
          rcases Nat.mul_eq_zero.1 this with h | h
          · exact h
          · have := Nat.two_pow_pos (i - min i (-1074)).toNat; omega
        subst hm
        refine ⟨0, by omega, ?_⟩
        rw [signed_neg]
        simp
    obtain ⟨n, hn, hk⟩ := key
    refine ⟨n, hn, ?_⟩
    rw [hk]
    simp only
    rw [if_pos]
    simp [IntKind.min, IntKind.max, IntKind.signed, IntKind.bits]
    omega

theorem order_comm (x y : Nat) : (FloatKind.f64.format.order y x == some .eq) = (FloatKind.f64.format.order x y == some .eq) := by
  obtain ⟨B, great⟩ := great_some
  rw [show FloatKind.f64.format = double from rfl, order_val B great, order_val B great]
  cases val B x with
  | none => cases val B y <;> rfl
  | some a =>
    cases val B y with
    | none => rfl
    | some b =>
      simp only [ordO]
      rcases Int.lt_trichotomy a b with h | h | h
      · rw [Int.compare_eq_lt.2 h, Int.compare_eq_gt.2 h]; rfl
      · subst h; rfl
      · rw [Int.compare_eq_gt.2 h, Int.compare_eq_lt.2 h]; rfl

abbrev quest : ByteArray := { data := #[63] }
abbrev powTab (w : World) : Prop := Lib.TabIs Tryd.prog w "internal/strconv.uint64pow10" .u64 Lib.pow10Tab

/-- A number's digits as the program holds them. -/
def digS (n : Nat) : ByteArray := { data := (Lib.decDigits n).toArray }
theorem digS_size (n : Nat) (h : n ≤ 9007199254740992) : (digS n).size ≤ 21 := by
  have hl := Lib.itoa_length_le (n : Int) (by omega) (by omega)
  rw [Lib.itoa_nonneg] at hl
  have e : (digS n).size = (Lib.decDigits n).length := rfl
  omega

theorem fmt_any (n : Nat) (hn : n ≤ 9007199254740992) (w : World) (htab : powTab w) :
    Calls Tryd.prog 29 #[.int .i64 n, .int .i64 10] w fun e w' => e = .returned (.string (digS n)) ∧ Below w.heap.size w w' := by
  refine (Tryd.strconv_FormatInt_10 (n : Int) (by omega) (by omega) w htab).mono ?_
  rintro e w' ⟨rfl, k, os, rfl⟩
  exact ⟨by rw [Lib.itoa_nonneg]; rfl, Lib.below_grow _ w (Nat.le_refl _) k os⟩
theorem refDig_any (n : Nat) (hn : n ≤ 9007199254740992) (w : World) :
    Calls Tryd.prog 30 #[.int .i64 n] w fun e w' => e = .returned (.string (digS n)) ∧ w = w' := by
  refine (refDigits_any n w (by omega)).mono ?_
  rintro e w' ⟨t, rfl, ht, rfl⟩
  have : t = digS n := WideShapes.bytes_inj (by rw [ht]; rfl)
  exact ⟨by rw [this], rfl⟩

/-- THE TEXT OF A NUMBER: from both packages the same bytes. -/
def TextOf (x : Nat) (t : ByteArray) : Prop := t.size ≤ 21 ∧
    (∀ w, powTab w → Calls Tryd.prog 26 #[.float .f64 x] w fun e w' => e = .returned (.string t) ∧ Below w.heap.size w w') ∧
    (∀ w, Calls Tryd.prog 27 #[.float .f64 x] w fun e w' => e = .returned (.string t) ∧ w = w')

set_option maxHeartbeats 400000 in
theorem text_low (x : Nat) (h1 : (FloatKind.f64.format.order x 0 == some .gt || FloatKind.f64.format.order x 0 == some .eq) = false) : TextOf x quest := by
  refine ⟨by decide, fun w _ => ?_, fun w => ?_⟩
  · go_enter Tryd.func26, Tryd.ntmps26
    go_wp2_with fail
    go_ret
    exact ⟨rfl, Below.refl _ _⟩
  · go_enter Tryd.func27, Tryd.ntmps27
    go_wp2_with fail
    go_ret
    exact ⟨rfl, rfl⟩
set_option maxHeartbeats 400000 in
theorem text_high (x : Nat) (h1 : (FloatKind.f64.format.order x 0 == some .gt || FloatKind.f64.format.order x 0 == some .eq) = true)
    (h2 : (FloatKind.f64.format.order x 4845873199050653696 == some .lt || FloatKind.f64.format.order x 4845873199050653696 == some .eq) = false) : TextOf x quest := by
  refine ⟨by decide, fun w _ => ?_, fun w => ?_⟩
  · go_enter Tryd.func26, Tryd.ntmps26
    go_wp2_with fail
    all_goals (go_ret; exact ⟨rfl, Below.refl _ _⟩)
  · go_enter Tryd.func27, Tryd.ntmps27
    go_wp2_with fail
    all_goals (go_ret; exact ⟨rfl, rfl⟩)

theorem run_cut (x : Nat) (n : Nat) (t : TypeId) (ht : Tryd.prog.underlying t = some (.int .i64)) (hn : floatToIntVal .f64 x .i64 = some (n : Int)) (w : World) :
    (convert 22 t (.float .f64 x)).run Tryd.prog w = .ok (.int .i64 (n : Int)) w :=
  run_convert_float_int w _ _ _ _ _ _ (by rw [Tryd.underlying22]; rfl) ht hn

set_option maxHeartbeats 400000 in
theorem text_other (x n : Nat) (h1 : (FloatKind.f64.format.order x 0 == some .gt || FloatKind.f64.format.order x 0 == some .eq) = true)
    (h2 : (FloatKind.f64.format.order x 4845873199050653696 == some .lt || FloatKind.f64.format.order x 4845873199050653696 == some .eq) = true)
    (hn : floatToIntVal .f64 x .i64 = some (n : Int)) (h3 : (FloatKind.f64.format.order x (floatOfInt .f64 (n : Int)) == some .eq) = false) : TextOf x quest := by
  have h3' : (FloatKind.f64.format.order x (floatOfInt .f64 (n : Int)) != some .eq) = true := by simpa [bne] using h3
  have h4' : (FloatKind.f64.format.order (floatOfInt .f64 (n : Int)) x != some .eq) = true := by rw [bne, order_comm, h3]; rfl
  have r1 := run_cut x n 2 Tryd.underlying2 hn
  have r2 := run_cut x n 3 Tryd.underlying3 hn
  clear h3 hn
  refine ⟨by decide, fun w _ => ?_, fun w => ?_⟩
  · go_enter Tryd.func26, Tryd.ntmps26
    go_wp2_with fail
    all_goals (go_ret; exact ⟨rfl, Below.refl _ _⟩)
  · go_enter Tryd.func27, Tryd.ntmps27
    go_wp2_with fail
    all_goals (go_ret; exact ⟨rfl, rfl⟩)

set_option maxHeartbeats 400000 in
theorem text_whole (x n : Nat) (h1 : (FloatKind.f64.format.order x 0 == some .gt || FloatKind.f64.format.order x 0 == some .eq) = true)
    (h2 : (FloatKind.f64.format.order x 4845873199050653696 == some .lt || FloatKind.f64.format.order x 4845873199050653696 == some .eq) = true)
    (hle : n ≤ 9007199254740992) (hn : floatToIntVal .f64 x .i64 = some (n : Int)) (h3 : (FloatKind.f64.format.order x (floatOfInt .f64 (n : Int)) == some .eq) = true) : TextOf x (digS n) := by
  have h3' : (FloatKind.f64.format.order x (floatOfInt .f64 (n : Int)) != some .eq) = false := by rw [bne, h3]; rfl
  have h4' : (FloatKind.f64.format.order (floatOfInt .f64 (n : Int)) x != some .eq) = false := by rw [bne, order_comm, h3]; rfl
  have r1 := run_cut x n 2 Tryd.underlying2 hn
  have r2 := run_cut x n 3 Tryd.underlying3 hn
  have HF := Lib.hid (fmt_any n hle)
  have HD := Lib.hid (refDig_any n hle)
  have HT := Lib.hid (digS_size n hle)
  clear h3 hn
  refine ⟨HT.out, fun w hw => ?_, fun w => ?_⟩
  · have HW := Lib.hid hw
    clear hw
    go_enter Tryd.func26, Tryd.ntmps26
    go_wp2_with fail
    go_at_call 29
    (with_reducible refine (HF.out _ HW.out).mono ?_)
    rintro e w' ⟨rfl, hb⟩
    go_wp2_with fail
    go_ret
    exact ⟨rfl, hb⟩
  · go_enter Tryd.func27, Tryd.ntmps27
    go_wp2_with fail
    go_at_call 30
    (with_reducible refine (HD.out _).mono ?_)
    rintro e w' ⟨rfl, rfl⟩
    go_wp2_with fail
    go_ret
    exact ⟨rfl, rfl⟩

theorem texts_of (x : Nat) : ∃ t : ByteArray, TextOf x t := by
  cases h1 : (FloatKind.f64.format.order x 0 == some .gt || FloatKind.f64.format.order x 0 == some .eq) with
  | false => exact ⟨_, text_low x h1⟩
  | true =>
    cases h2 : (FloatKind.f64.format.order x 4845873199050653696 == some .lt || FloatKind.f64.format.order x 4845873199050653696 == some .eq) with
    | false => exact ⟨_, text_high x h1 h2⟩
    | true =>
      obtain ⟨n, hle, hn⟩ := toInt_some x h1 h2
      cases h3 : (FloatKind.f64.format.order x (floatOfInt .f64 (n : Int)) == some .eq) with
      | false => exact ⟨_, text_other x n h1 h2 hn h3⟩
      | true => exact ⟨_, text_whole x n h1 h2 hle hn h3⟩
end Go.Proofs.YtfdldhpbdllmeaaDoor

/-
  The walks of place.Text at the place 2 + 2i and of the live question: it returns true and leaves the world as it was. No condition.
-/
import Derived.Test.YtfdldhpbdllmeaaDoorWalks
namespace Go.Proofs.YtfdldhpbdllmeaaDoor
open Go.RowKit

theorem toInt2 : floatToIntVal .f64 4611686018427387904 .i64 = some 2 := by decide
theorem ofInt2 : floatOfInt .f64 2 = 4611686018427387904 := by decide
abbrev s2 : ByteArray := { data := #[50] }

theorem fmt_two (w : World) : Calls Tryd.prog 29 #[.int .i64 2, .int .i64 10] w fun e w' => e = .returned (.string s2) ∧ w' = w := by
  have h := Tryd.strconv_FormatInt_10_small 2 (by omega) w
  rw [Lib.decDigits_one (by omega)] at h
  exact h

set_option maxHeartbeats 400000 in
theorem digits_two (w : World) :
    Calls Tryd.prog 26 #[.float .f64 4611686018427387904] w fun e w' => e = .returned (.string s2) ∧ w = w' := by
  have r1 : ∀ w : World, (convert 22 2 (.float .f64 4611686018427387904)).run Tryd.prog w = .ok (.int .i64 2) w :=
    fun w => run_convert_float_int w _ _ _ _ _ _ (by rw [Tryd.underlying22]; rfl) Tryd.underlying2 toInt2
  have r2 : ∀ w : World, (convert 2 22 (.int .i64 2)).run Tryd.prog w = .ok (.float .f64 4611686018427387904) w := by
    intro w
    have := run_convert_int_float (P := Tryd.prog) w 2 22 .i64 .f64 2 (by rw [Tryd.underlying2]; rfl) Tryd.underlying22
    rwa [ofInt2] at this
  have o1 : FloatKind.f64.format.order 4611686018427387904 0 = some .gt := by decide
  have o2 : FloatKind.f64.format.order 4611686018427387904 4845873199050653696 = some .lt := by decide
  have o3 : FloatKind.f64.format.order 4611686018427387904 4611686018427387904 = some .eq := by decide
  go_enter Tryd.func26, Tryd.ntmps26
  go_wp2_with fail
  go_at_call 29
  refine (fmt_two _).mono ?_
  rintro e w' ⟨rfl, rfl⟩
  go_wp2_with fail
  go_ret
  exact ⟨rfl, rfl⟩

set_option maxHeartbeats 400000 in
theorem text_two (w : World) :
    Calls Tryd.prog 19 #[.complex .f64 4611686018427387904 4611686018427387904] w fun e w' => e = .returned (.string { data := #[50, 58, 50] }) ∧ w = w' := by
  go_enter Tryd.func19, Tryd.ntmps19
  go_wp2_with (go_at_call 26; refine (digits_two _).mono ?_; rintro e w' ⟨rfl, rfl⟩)
  go_ret
  exact ⟨rfl, rfl⟩

abbrev sQ : ByteArray := { data := #[97, 98, 10, 99, 100] }
theorem at_q (w : World) :
    Calls Tryd.prog 10 #[.string sQ, .int .i64 4] w fun e w' => e = .returned (.tuple #[.complex .f64 4611686018427387904 4611686018427387904, .int .i64 0]) ∧ w = w' := by
  have h := at_in sQ 4 w (by decide) (by decide)
  have e : pl (sQ.data.toList.take 4) = (2, 2) := by decide
  rw [e] at h
  unfold C at h
  rw [rung2] at h
  exact h

set_option maxHeartbeats 400000 in
/-- THE LIVE QUESTION: true, and the world as it was. -/
theorem alive_any (w : World) : Calls Tryd.prog 9 #[] w fun e w' => e = .returned (.bool true) ∧ w = w' := by
  have o3 : FloatKind.f64.format.order 4611686018427387904 4611686018427387904 = some .eq := by decide
  go_enter Tryd.func9, Tryd.ntmps9
  go_wp2_with (first | (go_at_call 10; refine (at_q _).mono ?_; rintro e w' ⟨rfl, rfl⟩) | (go_at_call 19; refine (text_two _).mono ?_; rintro e w' ⟨rfl, rfl⟩))
  go_ret
  exact ⟨rfl, rfl⟩
end Go.Proofs.YtfdldhpbdllmeaaDoor

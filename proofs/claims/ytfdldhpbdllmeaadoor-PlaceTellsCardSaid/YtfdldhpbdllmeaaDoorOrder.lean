/-
  The order of float64s as both packages reckon it (NaN first, all NaNs equal, both zeros equal), and the walks of the two Compare functions: the same answer from both. Condition: none.
-/
import Derived.Test.YtfdldhpbdllmeaaDoorWalks
namespace Go.Proofs.YtfdldhpbdllmeaaDoor
open Go.RowKit Ieee

/-- Is a word a NaN? -/
def nanW (x : Nat) : Bool := FloatKind.f64.format.order x x != some .eq
/-- -1, 0, 1: NaN first. -/
def ordW (x y : Nat) : Int := if nanW x = true then (if nanW y = true then 0 else -1) else if nanW y = true then 1 else if (FloatKind.f64.format.order x y == some .lt) = true then -1 else if (FloatKind.f64.format.order x y == some .gt) = true then 1 else 0
/-- By the real parts, then by the imaginary ones. -/
def ordC (a b c d : Nat) : Int := if ordW a c = 0 then ordW b d else ordW a c

set_option maxHeartbeats 400000 in
theorem isNaN_any (x : Nat) (w : World) : Calls Tryd.prog 28 #[.float .f64 x] w fun e w' => e = .returned (.bool (nanW x)) ∧ w = w' := by
  go_enter Tryd.func28, Tryd.ntmps28
  go_wp2_with fail
  go_ret
  exact ⟨rfl, rfl⟩

set_option maxHeartbeats 400000 in
theorem cmpF_any (x y : Nat) (w : World) : Calls Tryd.prog 24 #[.float .f64 x, .float .f64 y] w fun e w' => e = .returned (.int .i64 (ordW x y)) ∧ w = w' := by
  have hn : ∀ x w, Calls Tryd.prog 28 #[.float .f64 x] w fun e w' => e = .returned (.bool (nanW x)) ∧ w = w' := isNaN_any
  have HN := Lib.hid hn
  clear hn
  cases h1 : nanW x <;> cases h2 : nanW y
  · have H1 := Lib.hid h1
    have H2 := Lib.hid h2
    cases h3 : (FloatKind.f64.format.order x y == some .lt) <;> cases h4 : (FloatKind.f64.format.order x y == some .gt)
    all_goals
      have H3 := Lib.hid h3
      have H4 := Lib.hid h4
      go_enter Tryd.func24, Tryd.ntmps24
      go_wp2_with (go_at_call 28; (with_reducible refine (HN.out _ _).mono ?_); rintro e w' ⟨rfl, rfl⟩)
      go_ret
      exact ⟨by unfold ordW; rw [H1.out, H2.out, H3.out, H4.out]; rfl, rfl⟩
  all_goals
    have H1 := Lib.hid h1
    have H2 := Lib.hid h2
    go_enter Tryd.func24, Tryd.ntmps24
    go_wp2_with (go_at_call 28; (with_reducible refine (HN.out _ _).mono ?_); rintro e w' ⟨rfl, rfl⟩)
    go_ret
    exact ⟨by unfold ordW; rw [H1.out, H2.out]; rfl, rfl⟩

set_option maxHeartbeats 400000 in
theorem order_any (x y : Nat) (w : World) : Calls Tryd.prog 25 #[.float .f64 x, .float .f64 y] w fun e w' => e = .returned (.int .i64 (ordW x y)) ∧ w = w' := by
  cases h1 : nanW x <;> cases h2 : nanW y
  · have H1 := Lib.hid h1
    have H2 := Lib.hid h2
    unfold nanW at h1 h2
    cases h3 : (FloatKind.f64.format.order x y == some .lt) <;> cases h4 : (FloatKind.f64.format.order x y == some .gt)
    all_goals
      have H3 := Lib.hid h3
      have H4 := Lib.hid h4
      go_enter Tryd.func25, Tryd.ntmps25
      go_wp2_with fail
      go_ret
      exact ⟨by unfold ordW; rw [H1.out, H2.out, H3.out, H4.out]; rfl, rfl⟩
  all_goals
    have H1 := Lib.hid h1
    have H2 := Lib.hid h2
    unfold nanW at h1 h2
    go_enter Tryd.func25, Tryd.ntmps25
    go_wp2_with fail
    go_ret
    exact ⟨by unfold ordW; rw [H1.out, H2.out]; rfl, rfl⟩

theorem ordW_cases (x y : Nat) : ordW x y = -1 ∨ ordW x y = 0 ∨ ordW x y = 1 := by
  unfold ordW
  repeat' split
  all_goals simp

set_option maxHeartbeats 400000 in
theorem compare_any (a b c d : Nat) (w : World) : Calls Tryd.prog 17 #[.complex .f64 a b, .complex .f64 c d] w fun e w' => e = .returned (.int .i64 (ordC a b c d)) ∧ w = w' := by
  rcases ordW_cases a c with h | h | h
  all_goals
    have H := Lib.hid h
    have hc : ∀ w, Calls Tryd.prog 24 #[.float .f64 a, .float .f64 c] w fun e w' => e = .returned (.int .i64 (ordW a c)) ∧ w = w' := cmpF_any a c
    have hd : ∀ w, Calls Tryd.prog 24 #[.float .f64 b, .float .f64 d] w fun e w' => e = .returned (.int .i64 (ordW b d)) ∧ w = w' := cmpF_any b d
    rw [h] at hc
    have HC := Lib.hid hc
    have HD := Lib.hid hd
    clear h hc hd
    go_enter Tryd.func17, Tryd.ntmps17
    go_wp2_with (go_at_call 24; (first | with_reducible refine (HC.out _).mono ?_ | with_reducible refine (HD.out _).mono ?_); rintro e w' ⟨rfl, rfl⟩)
    go_ret
    exact ⟨by unfold ordC; rw [H.out]; rfl, rfl⟩

set_option maxHeartbeats 400000 in
theorem refCompare_any (a b c d : Nat) (w : World) : Calls Tryd.prog 18 #[.complex .f64 a b, .complex .f64 c d] w fun e w' => e = .returned (.int .i64 (ordC a b c d)) ∧ w = w' := by
  rcases ordW_cases a c with h | h | h
  all_goals
    have H := Lib.hid h
    have hc : ∀ w, Calls Tryd.prog 25 #[.float .f64 a, .float .f64 c] w fun e w' => e = .returned (.int .i64 (ordW a c)) ∧ w = w' := order_any a c
    have hd : ∀ w, Calls Tryd.prog 25 #[.float .f64 b, .float .f64 d] w fun e w' => e = .returned (.int .i64 (ordW b d)) ∧ w = w' := order_any b d
    rw [h] at hc
    have HC := Lib.hid hc
    have HD := Lib.hid hd
    clear h hc hd
    go_enter Tryd.func18, Tryd.ntmps18
    go_wp2_with (go_at_call 25; (first | with_reducible refine (HC.out _).mono ?_ | with_reducible refine (HD.out _).mono ?_); rintro e w' ⟨rfl, rfl⟩)
    go_ret
    exact ⟨by unfold ordC; rw [H.out]; rfl, rfl⟩
end Go.Proofs.YtfdldhpbdllmeaaDoor

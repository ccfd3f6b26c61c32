/-
  The walk of PlaceLine: it returns true and lays one new block. No condition.
-/
import Derived.Test.YtfdldhpbdllmeaaDoorAlive
import Derived.Test.YtfdldhpbdllmeaaDoorOrderLaws
import Derived.Handy
namespace Go.Proofs.YtfdldhpbdllmeaaDoor
open Go.RowKit

theorem cmp_is (a b c d : Nat) (x : Int) (h : ordC a b c d = x) (w : World) : Calls Tryd.prog 17 #[.complex .f64 a b, .complex .f64 c d] w fun e w' => e = .returned (.int .i64 x) ∧ w = w' := by
  rw [← h]; exact compare_any _ _ _ _ w

set_option maxHeartbeats 1000000 in
theorem line_any (a0 a1 b0 b1 c0 c1 : Nat) (w : World) :
    Calls Tryd.prog 7 #[.agg #[.float .f64 a0, .float .f64 a1, .float .f64 b0, .float .f64 b1, .float .f64 c0, .float .f64 c1]] w fun e w' => e = .returned (.bool true) ∧ Below w.heap.size w w' := by
  obtain ⟨z, hz⟩ : ∃ z, ordC b0 b1 c0 c1 = z := ⟨_, rfl⟩
  obtain ⟨r, hr⟩ : ∃ r, ordC a0 a1 c0 c1 = r := ⟨_, rfl⟩
  have tr := ordC_trans a0 a1 b0 b1 c0 c1
  have an := ordC_anti a0 a1 b0 b1
  have ra := ordC_range a0 a1 b0 b1
  have rz := ordC_range b0 b1 c0 c1
  have rr := ordC_range a0 a1 c0 c1
  rw [hz, hr] at tr
  rw [hz] at rz
  rw [hr] at rr
  have HBC := Lib.hid (cmp_is _ _ _ _ _ hz)
  have HAC := Lib.hid (cmp_is _ _ _ _ _ hr)
  have HAA := Lib.hid (cmp_is _ _ _ _ _ (ordC_same a0 a1))
  obtain ⟨x, hx⟩ : ∃ x, ordC a0 a1 b0 b1 = x := ⟨_, rfl⟩
  rw [hx] at tr an ra
  obtain ⟨r1, r2⟩ := rr
  obtain ⟨z1, z2⟩ := rz
  have hx3 : x = 1 ∨ x = 0 ∨ x = -1 := by omega
  rcases hx3 with rfl | rfl | rfl
  · have HAB := Lib.hid (cmp_is _ _ _ _ _ hx)
    have HBA := Lib.hid (cmp_is _ _ _ _ _ (show ordC b0 b1 a0 a1 = -1 from an))
    clear hx hz hr an ra tr
    go_enter Tryd.func7, Tryd.ntmps7
    go_wp2_with (first | (go_at_call 9; (with_reducible refine (alive_any _).mono ?_); rintro e w' ⟨rfl, rfl⟩) | (go_at_call 17; (first | with_reducible refine (HAB.out _).mono ?_ | with_reducible refine (HBC.out _).mono ?_ | with_reducible refine (HAC.out _).mono ?_ | with_reducible refine (HBA.out _).mono ?_ | with_reducible refine (HAA.out _).mono ?_); rintro e w' ⟨rfl, rfl⟩))
    all_goals (go_ret; refine ⟨rfl, ?_⟩; go_grown)
  · by_cases hz0 : 0 < z
    · have HAB := Lib.hid (cmp_is _ _ _ _ _ hx)
      have HBA := Lib.hid (cmp_is _ _ _ _ _ (show ordC b0 b1 a0 a1 = 0 from an))
      clear hx hz hr an ra tr
      go_enter Tryd.func7, Tryd.ntmps7
      go_wp2_with (first | (go_at_call 9; (with_reducible refine (alive_any _).mono ?_); rintro e w' ⟨rfl, rfl⟩) | (go_at_call 17; (first | with_reducible refine (HAB.out _).mono ?_ | with_reducible refine (HBC.out _).mono ?_ | with_reducible refine (HAC.out _).mono ?_ | with_reducible refine (HBA.out _).mono ?_ | with_reducible refine (HAA.out _).mono ?_); rintro e w' ⟨rfl, rfl⟩))
      all_goals (go_ret; refine ⟨rfl, ?_⟩; go_grown)
    · have hr0 : r ≤ 0 := tr.1 (by omega) (by omega)
      have hz1 : z ≤ 0 := by omega
      have HAB := Lib.hid (cmp_is _ _ _ _ _ hx)
      have HBA := Lib.hid (cmp_is _ _ _ _ _ (show ordC b0 b1 a0 a1 = 0 from an))
      clear hx hz hr an ra tr
      go_enter Tryd.func7, Tryd.ntmps7
      go_wp2_with (first | (go_at_call 9; (with_reducible refine (alive_any _).mono ?_); rintro e w' ⟨rfl, rfl⟩) | (go_at_call 17; (first | with_reducible refine (HAB.out _).mono ?_ | with_reducible refine (HBC.out _).mono ?_ | with_reducible refine (HAC.out _).mono ?_ | with_reducible refine (HBA.out _).mono ?_ | with_reducible refine (HAA.out _).mono ?_); rintro e w' ⟨rfl, rfl⟩))
      all_goals (go_ret; refine ⟨rfl, ?_⟩; go_grown)
  · by_cases hz0 : 0 < z
    · have HAB := Lib.hid (cmp_is _ _ _ _ _ hx)
      have HBA := Lib.hid (cmp_is _ _ _ _ _ (show ordC b0 b1 a0 a1 = 1 from an))
      clear hx hz hr an ra tr
      go_enter Tryd.func7, Tryd.ntmps7
      go_wp2_with (first | (go_at_call 9; (with_reducible refine (alive_any _).mono ?_); rintro e w' ⟨rfl, rfl⟩) | (go_at_call 17; (first | with_reducible refine (HAB.out _).mono ?_ | with_reducible refine (HBC.out _).mono ?_ | with_reducible refine (HAC.out _).mono ?_ | with_reducible refine (HBA.out _).mono ?_ | with_reducible refine (HAA.out _).mono ?_); rintro e w' ⟨rfl, rfl⟩))
      all_goals (go_ret; refine ⟨rfl, ?_⟩; go_grown)
    · have hr0 : r < 0 := tr.2 (by omega) (by omega)
      have hr1 : r ≤ 0 := by omega
      have hd : (decide (0 < z) || decide (r ≤ 0)) = true := by simp; omega
      have hz1 : z ≤ 0 := by omega
      have HAB := Lib.hid (cmp_is _ _ _ _ _ hx)
      have HBA := Lib.hid (cmp_is _ _ _ _ _ (show ordC b0 b1 a0 a1 = 1 from an))
      clear hx hz hr an ra tr
      go_enter Tryd.func7, Tryd.ntmps7
      go_wp2_with (first | (go_at_call 9; (with_reducible refine (alive_any _).mono ?_); rintro e w' ⟨rfl, rfl⟩) | (go_at_call 17; (first | with_reducible refine (HAB.out _).mono ?_ | with_reducible refine (HBC.out _).mono ?_ | with_reducible refine (HAC.out _).mono ?_ | with_reducible refine (HBA.out _).mono ?_ | with_reducible refine (HAA.out _).mono ?_); rintro e w' ⟨rfl, rfl⟩))
      all_goals (go_ret; refine ⟨by rw [← hd]; rfl, ?_⟩; go_grown)
end Go.Proofs.YtfdldhpbdllmeaaDoor

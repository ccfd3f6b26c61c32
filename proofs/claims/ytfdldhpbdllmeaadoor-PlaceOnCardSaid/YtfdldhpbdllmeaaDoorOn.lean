/-
  The walk of PlaceOn: it returns true and leaves the world as it was. Condition: the texts are no longer than a machine's.
-/
import Derived.Test.YtfdldhpbdllmeaaDoorMoves
namespace Go.Proofs.YtfdldhpbdllmeaaDoor
open Go.RowKit

theorem pl_append (l m : List UInt8) : pl (l ++ m) = mv (pl l) m := by
  unfold pl mv
  rw [cnt_append, cntFrom_eq]
  split <;> simp <;> omega
theorem mv_nil (p : Nat × Nat) : mv p [] = p := by
  unfold mv
  simp [cnt, cntFrom]

theorem cat_size (a b : ByteArray) : (a ++ b).size = a.size + b.size := by simp
theorem cat_list (a b : ByteArray) : (a ++ b).data.toList = a.data.toList ++ b.data.toList := by simp

set_option maxHeartbeats 400000 in
theorem on_in (a b c : ByteArray) (w : World) (ha : a.size ≤ 300) (hb : b.size ≤ 300) (hc : c.size ≤ 300) :
    Calls Tryd.prog 6 #[.string a, .string b, .string c] w fun e w' => e = .returned (.bool true) ∧ w = w' := by
  obtain ⟨x0, y0, e0⟩ : ∃ x y, pl a.data.toList = (x, y) := ⟨_, _, rfl⟩
  obtain ⟨x1, y1, e1⟩ : ∃ x y, mv (x0, y0) b.data.toList = (x, y) := ⟨_, _, rfl⟩
  obtain ⟨x2, y2, e2⟩ : ∃ x y, mv (x1, y1) c.data.toList = (x, y) := ⟨_, _, rfl⟩
  have q1 : pl (a.data.toList ++ b.data.toList) = (x1, y1) := by rw [pl_append, e0, e1]
  have q2 : pl (a.data.toList ++ b.data.toList ++ c.data.toList) = (x2, y2) := by rw [pl_append, q1, e2]
  have q3 : mv (x0, y0) (b.data.toList ++ c.data.toList) = (x2, y2) := by rw [← q2, List.append_assoc, pl_append, e0]
  have za : a.data.toList.length = a.size := by simp
  have zb : b.data.toList.length = b.size := by simp
  have zc : c.data.toList.length = c.size := by simp
  have l0 := pl_le a.data.toList
  have l1 := pl_le (a.data.toList ++ b.data.toList)
  have l2 := pl_le (a.data.toList ++ b.data.toList ++ c.data.toList)
  rw [e0] at l0
  rw [q1] at l1
  rw [q2] at l2
  simp only [List.length_append] at l0 l1 l2
  have hA : ∀ w : World, Calls Tryd.prog 10 #[.string a, .int .i64 (a.size : Int)] w fun e w' => e = .returned (.tuple #[.complex .f64 (rungOf x0) (rungOf y0), .int .i64 0]) ∧ w = w' := by
    intro w
    have := at_in a a.size w (by omega) (Nat.le_refl _)
    rw [take_all, e0] at this
    exact this
  have hB : ∀ w : World, Calls Tryd.prog 10 #[.string (a ++ b ++ c), .int .i64 ((a.size : Int) + (b.size : Int) + (c.size : Int))] w fun e w' => e = .returned (.tuple #[.complex .f64 (rungOf x2) (rungOf y2), .int .i64 0]) ∧ w = w' := by
    intro w
    have := at_in (a ++ b ++ c) (a ++ b ++ c).size w (by rw [cat_size, cat_size]; omega) (Nat.le_refl _)
    rw [take_all, cat_list, cat_list, q2, cat_size, cat_size] at this
    exact this
  have h1 : ∀ w : World, Calls Tryd.prog 15 #[.complex .f64 (rungOf x0) (rungOf y0), .string b] w fun e w' => e = .returned (.complex .f64 (rungOf x1) (rungOf y1)) ∧ w = w' := by
    intro w
    have := moved_any (x0, y0) b w (by omega) (by simp only; omega) (by simp only; omega)
    rw [e1] at this
    exact this
  have h2 : ∀ w : World, Calls Tryd.prog 15 #[.complex .f64 (rungOf x1) (rungOf y1), .string c] w fun e w' => e = .returned (.complex .f64 (rungOf x2) (rungOf y2)) ∧ w = w' := by
    intro w
    have := moved_any (x1, y1) c w (by omega) (by simp only; omega) (by simp only; omega)
    rw [e2] at this
    exact this
  have h3 : ∀ w : World, Calls Tryd.prog 15 #[.complex .f64 (rungOf x0) (rungOf y0), .string (b ++ c)] w fun e w' => e = .returned (.complex .f64 (rungOf x2) (rungOf y2)) ∧ w = w' := by
    intro w
    have := moved_any (x0, y0) (b ++ c) w (by rw [cat_size]; omega) (by simp only; omega) (by simp only; omega)
    rw [cat_list, q3] at this
    exact this
  have h4 : ∀ w : World, Calls Tryd.prog 15 #[.complex .f64 (rungOf x0) (rungOf y0), .string { data := #[] }] w fun e w' => e = .returned (.complex .f64 (rungOf x0) (rungOf y0)) ∧ w = w' := by
    intro w
    have := moved_any (x0, y0) { data := #[] } w (by decide) (by simp only; omega) (by simp only; omega)
    rw [show mv (x0, y0) ({ data := #[] } : ByteArray).data.toList = (x0, y0) from mv_nil _] at this
    exact this
  have o1 := ord_eq x2 (by omega)
  have o2 := ord_eq y2 (by omega)
  have o3 := ord_eq x0 (by omega)
  have o4 := ord_eq y0 (by omega)
  have HA := Lib.hid hA
  have HB := Lib.hid hB
  have H1 := Lib.hid h1
  have H2 := Lib.hid h2
  have H3 := Lib.hid h3
  have H4 := Lib.hid h4
  clear e0 e1 e2 q1 q2 q3 za zb zc l0 l1 l2 hA hB h1 h2 h3 h4
  go_enter Tryd.func6, Tryd.ntmps6
  go_wp2_with fail
  go_at_call 10
  (with_reducible refine (HA.out _).mono ?_)
  rintro e w' ⟨rfl, rfl⟩
  go_wp2_with fail
  go_at_call 10
  (with_reducible refine (HB.out _).mono ?_)
  rintro e w' ⟨rfl, rfl⟩
  go_wp2_with fail
  go_at_call 15
  (with_reducible refine (H1.out _).mono ?_)
  rintro e w' ⟨rfl, rfl⟩
  go_wp2_with fail
  go_at_call 15
  (with_reducible refine (H2.out _).mono ?_)
  rintro e w' ⟨rfl, rfl⟩
  go_wp2_with fail
  go_at_call 9
  (with_reducible refine (alive_any _).mono ?_)
  rintro e w' ⟨rfl, rfl⟩
  go_wp2_with fail
  go_at_call 15
  (with_reducible refine (H3.out _).mono ?_)
  rintro e w' ⟨rfl, rfl⟩
  go_wp2_with fail
  go_at_call 15
  (with_reducible refine (H4.out _).mono ?_)
  rintro e w' ⟨rfl, rfl⟩
  go_wp2_with fail
  go_ret
  exact ⟨rfl, rfl⟩

set_option maxHeartbeats 400000 in
theorem on_out (a b c : ByteArray) (w : World) (ha : a.size ≤ maxLen) (hb : b.size ≤ maxLen) (hc : c.size ≤ maxLen) (h : 300 < a.size ∨ 300 < b.size ∨ 300 < c.size) :
    Calls Tryd.prog 6 #[.string a, .string b, .string c] w fun e w' => e = .returned (.bool true) ∧ w = w' := by
  unfold maxLen at ha hb hc
  by_cases h1 : 300 < a.size
  · clear h
    go_enter Tryd.func6, Tryd.ntmps6
    go_wp2_with (go_at_call 9; (with_reducible refine (alive_any _).mono ?_); rintro e w' ⟨rfl, rfl⟩)
    all_goals (go_ret; exact ⟨rfl, rfl⟩)
  have h1' : a.size ≤ 300 := by omega
  by_cases h2 : 300 < b.size
  · clear h
    go_enter Tryd.func6, Tryd.ntmps6
    go_wp2_with (go_at_call 9; (with_reducible refine (alive_any _).mono ?_); rintro e w' ⟨rfl, rfl⟩)
    all_goals (go_ret; exact ⟨rfl, rfl⟩)
  have h2' : b.size ≤ 300 := by omega
  have h3 : 300 < c.size := by omega
  clear h
  go_enter Tryd.func6, Tryd.ntmps6
  go_wp2_with (go_at_call 9; (with_reducible refine (alive_any _).mono ?_); rintro e w' ⟨rfl, rfl⟩)
  all_goals (go_ret; exact ⟨rfl, rfl⟩)

theorem on_any (a b c : ByteArray) (w : World) (ha : a.size ≤ maxLen) (hb : b.size ≤ maxLen) (hc : c.size ≤ maxLen) :
    Calls Tryd.prog 6 #[.string a, .string b, .string c] w fun e w' => e = .returned (.bool true) ∧ w = w' := by
  by_cases h : 300 < a.size ∨ 300 < b.size ∨ 300 < c.size
  · exact on_out a b c w ha hb hc h
  · exact on_in a b c w (by omega) (by omega) (by omega)
end Go.Proofs.YtfdldhpbdllmeaaDoor

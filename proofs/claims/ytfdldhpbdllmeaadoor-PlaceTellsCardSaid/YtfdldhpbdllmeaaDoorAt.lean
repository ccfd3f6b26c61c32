/-
  The walk of PlaceAt: it returns true and lays one new block. Condition: the text is no longer than a machine's.
-/
import Derived.Test.YtfdldhpbdllmeaaDoorAlive
import Derived.Test.YtfdldhpbdllmeaaDoorOrderLaws
import Derived.Test.YtfdldhpbdllmeaaDoorIndex
import Derived.Handy
namespace Go.Proofs.YtfdldhpbdllmeaaDoor
open Go.RowKit

set_option maxHeartbeats 400000 in
theorem same_zero (a b c d : Nat) (h : ordC a b c d = 0) (w : World) : Calls Tryd.prog 14 #[.complex .f64 a b, .complex .f64 c d] w fun e w' => e = .returned (.bool true) ∧ w = w' := by
  have hc : ∀ w, Calls Tryd.prog 18 #[.complex .f64 a b, .complex .f64 c d] w fun e w' => e = .returned (.int .i64 0) ∧ w = w' := fun w => by rw [← h]; exact refCompare_any _ _ _ _ w
  have H := Lib.hid hc
  clear hc h
  go_enter Tryd.func14, Tryd.ntmps14
  go_wp2_with (go_at_call 18; (with_reducible refine (H.out _).mono ?_); rintro e w' ⟨rfl, rfl⟩)
  go_ret
  exact ⟨rfl, rfl⟩

set_option maxHeartbeats 1000000 in
/-- What the two At functions answer is one and the same: so the law is true. -/
theorem placeAt_of (s : ByteArray) (n : Int) (x y a b : Nat) (q : Int) (w : World) (hs : s.size ≤ 300)
    (h1 : ∀ w, Calls Tryd.prog 10 #[.string s, .int .i64 n] w fun e w' => e = .returned (.tuple #[.complex .f64 a b, .int .i64 q]) ∧ w = w')
    (h2 : ∀ w, Calls Tryd.prog 11 #[.string s, .int .i64 n] w fun e w' => e = .returned (.tuple #[.complex .f64 a b, .int .i64 q]) ∧ w = w') :
    Calls Tryd.prog 3 #[.string s, .int .i64 n, .agg #[.float .f64 x, .float .f64 y]] w fun e w' => e = .returned (.bool true) ∧ Below w.heap.size w w' := by
  obtain ⟨i, hi⟩ : ∃ i, ansI (idxFrom s x y 0 s.size) = i := ⟨_, rfl⟩
  obtain ⟨j, hj⟩ : ∃ j, ansE (idxFrom s x y 0 s.size) = j := ⟨_, rfl⟩
  have h3 : ∀ w, Calls Tryd.prog 12 #[.string s, .complex .f64 x y] w fun e w' => e = .returned (.tuple #[.int .i64 i, .int .i64 j]) ∧ w = w' := fun w => by rw [← hi, ← hj]; exact index_any s x y w (by omega)
  have h4 : ∀ w, Calls Tryd.prog 13 #[.string s, .complex .f64 x y] w fun e w' => e = .returned (.tuple #[.int .i64 i, .int .i64 j]) ∧ w = w' := fun w => by rw [← hi, ← hj]; exact refIndex_any s x y w (by omega)
  have H1 := Lib.hid h1
  have H2 := Lib.hid h2
  have H3 := Lib.hid h3
  have H4 := Lib.hid h4
  have H5 := Lib.hid (same_zero a b a b (ordC_same a b))
  clear h1 h2 h3 h4 hi hj
  go_enter Tryd.func3, Tryd.ntmps3
  go_wp2_with (first
    | (go_at_call 9; (with_reducible refine (alive_any _).mono ?_); rintro e w' ⟨rfl, rfl⟩)
    | (go_at_call 10; (with_reducible refine (H1.out _).mono ?_); rintro e w' ⟨rfl, rfl⟩)
    | (go_at_call 11; (with_reducible refine (H2.out _).mono ?_); rintro e w' ⟨rfl, rfl⟩)
    | (go_at_call 12; (with_reducible refine (H3.out _).mono ?_); rintro e w' ⟨rfl, rfl⟩)
    | (go_at_call 13; (with_reducible refine (H4.out _).mono ?_); rintro e w' ⟨rfl, rfl⟩)
    | (go_at_call 14; (with_reducible refine (H5.out _).mono ?_); rintro e w' ⟨rfl, rfl⟩))
  go_ret
  refine ⟨rfl, ?_⟩
  go_grown

set_option maxHeartbeats 400000 in
theorem placeAt_long (s : ByteArray) (n : Int) (x y : Nat) (w : World) (hm : s.size ≤ maxLen) (hs : 300 < s.size) :
    Calls Tryd.prog 3 #[.string s, .int .i64 n, .agg #[.float .f64 x, .float .f64 y]] w fun e w' => e = .returned (.bool true) ∧ Below w.heap.size w w' := by
  unfold maxLen at hm
  go_enter Tryd.func3, Tryd.ntmps3
  go_wp2_with (go_at_call 9; (with_reducible refine (alive_any _).mono ?_); rintro e w' ⟨rfl, rfl⟩)
  go_ret
  refine ⟨rfl, ?_⟩
  go_grown

theorem placeAt_any (s : ByteArray) (n : Int) (x y : Nat) (w : World) (hm : s.size ≤ maxLen) :
    Calls Tryd.prog 3 #[.string s, .int .i64 n, .agg #[.float .f64 x, .float .f64 y]] w fun e w' => e = .returned (.bool true) ∧ Below w.heap.size w w' := by
  by_cases hs : 300 < s.size
  · exact placeAt_long s n x y w hm hs
  by_cases hn : n < 0 ∨ (s.size : Int) < n
  · exact placeAt_of s n x y 0 0 11 w (by omega) (fun w => at_out s n w hn) (fun w => refAt_out s n w hn)
  · obtain ⟨k, rfl⟩ := Int.eq_ofNat_of_zero_le (show 0 ≤ n by omega)
    exact placeAt_of s k x y _ _ 0 w (by omega) (fun w => at_in s k w (by omega) (by omega)) (fun w => refAt_in s k w (by omega) (by omega))
end Go.Proofs.YtfdldhpbdllmeaaDoor

/-
  The walk of PlaceBack: it returns true and lays one new block. Condition: the text is no longer than a machine's.
-/
import Derived.Test.YtfdldhpbdllmeaaDoorAt
namespace Go.Proofs.YtfdldhpbdllmeaaDoor
open Go.RowKit

/-- A place ahead of another one. -/
def Ahead (p q : Nat × Nat) : Prop := p.1 < q.1 ∨ (p.1 = q.1 ∧ p.2 < q.2)

theorem ahead_bh (p : Nat × Nat) (c : UInt8) : Ahead p (bh p c) := by
  unfold Ahead bh
  split
  · left; simp
  · right; simp
theorem ahead_trans {p q r : Nat × Nat} (h : Ahead p q) (k : Ahead q r) : Ahead p r := by
  unfold Ahead at *
  omega
theorem ahead_take (s : ByteArray) (k m : Nat) (h : k + 1 + m ≤ s.size) : Ahead (pl (s.data.toList.take k)) (pl (s.data.toList.take (k + 1 + m))) := by
  induction m with
  | zero =>
    rw [Nat.add_zero, pl_take_succ s k (by omega)]
    exact ahead_bh _ _
  | succ m ih =>
    refine ahead_trans (ih (by omega)) ?_
    rw [← Nat.add_assoc, pl_take_succ s (k + 1 + m) (by omega)]
    exact ahead_bh _ _
theorem ahead_of_lt (s : ByteArray) (k n : Nat) (h : k < n) (hn : n ≤ s.size) : Ahead (pl (s.data.toList.take k)) (pl (s.data.toList.take n)) := by
  have := ahead_take s k (n - (k + 1)) (by omega)
  rwa [show k + 1 + (n - (k + 1)) = n by omega] at this

theorem nan_rung (a : Nat) (h : a < 9007199254740992) : nanW (rungOf a) = false := by
  unfold nanW; rw [ord_eq a h]; rfl
theorem ordW_lt (a b : Nat) (h : b < 9007199254740992) (k : a < b) : ordW (rungOf a) (rungOf b) = -1 := by
  unfold ordW; rw [nan_rung a (by omega), nan_rung b h, ord_lt a b h k]; rfl
theorem ordW_gt (a b : Nat) (h : a < 9007199254740992) (k : b < a) : ordW (rungOf a) (rungOf b) = 1 := by
  unfold ordW; rw [nan_rung a h, nan_rung b (by omega), ord_gt a b h k]; rfl
theorem ordW_eq (a : Nat) (h : a < 9007199254740992) : ordW (rungOf a) (rungOf a) = 0 := by
  unfold ordW; rw [nan_rung a h, ord_eq a h]; rfl

theorem ordC_ahead (a b a' b' : Nat) (h : Ahead (a, b) (a', b')) (h1 : a' < 9007199254740992) (h2 : b' < 9007199254740992) : ordC (rungOf a) (rungOf b) (rungOf a') (rungOf b') = -1 := by
  unfold ordC
  rcases h with h | ⟨h, k⟩
  · rw [ordW_lt a a' h1 h]; rfl
  · simp only at h k
    subst h
    rw [ordW_eq a h1, ordW_lt b b' h2 k]; rfl

theorem ord_ne (a b : Nat) (ha : a < 9007199254740992) (hb : b < 9007199254740992) (h : a ≠ b) : (FloatKind.f64.format.order (rungOf a) (rungOf b) == some .eq) = false := by
  rcases Nat.lt_or_gt_of_ne h with k | k
  · rw [ord_lt a b hb k]; rfl
  · rw [ord_gt a b ha k]; rfl

theorem idx_of (s : ByteArray) (k0 a b : Nat) (hs : s.size ≤ 4503599627370495) (hk0 : k0 ≤ s.size) (hab : pl (s.data.toList.take k0) = (a, b)) :
    ∀ (m k : Nat), k + m = s.size → k ≤ k0 → idxFrom s (rungOf a) (rungOf b) k m = some k0 := by
  have b0 := pl_take_le s k0
  rw [hab] at b0
  simp only at b0
  have hhit : hit s (rungOf a) (rungOf b) k0 = true := by
    unfold hit
    rw [hab, ord_eq a (by omega), ord_eq b (by omega)]; rfl
  have hmiss : ∀ k, k < k0 → hit s (rungOf a) (rungOf b) k = false := by
    intro k hk
    have h := ahead_of_lt s k k0 hk hk0
    have bk := pl_take_le s k
    rw [hab] at h
    unfold hit
    rcases h with h | ⟨_, h⟩
    · simp only at h
      rw [ord_ne _ _ (by omega) (by omega) (by omega)]; rfl
    · simp only at h
      rw [ord_ne (pl (s.data.toList.take k)).2 b (by omega) (by omega) (by omega), Bool.and_false]
  intro m
  induction m with
  | zero =>
    intro k h1 h2
    obtain rfl : k = k0 := by omega
    exact idx_hit _ _ _ _ _ hhit
  | succ m ih =>
    intro k h1 h2
    by_cases e : k = k0
    · subst e; exact idx_hit _ _ _ _ _ hhit
    · rw [idx_miss _ _ _ _ _ (hmiss k (by omega))]
      exact ih (k + 1) (by omega) (by omega)

theorem at_some (s : ByteArray) (n : Int) (hs : s.size ≤ 300) : ∃ (a b : Nat) (q : Int), ∀ w, Calls Tryd.prog 10 #[.string s, .int .i64 n] w fun e w' => e = .returned (.tuple #[.complex .f64 a b, .int .i64 q]) ∧ w = w' := by
  by_cases hn : n < 0 ∨ (s.size : Int) < n
  · exact ⟨0, 0, 11, fun w => at_out s n w hn⟩
  · obtain ⟨k, rfl⟩ := Int.eq_ofNat_of_zero_le (show 0 ≤ n by omega)
    exact ⟨_, _, 0, fun w => at_in s k w (by omega) (by omega)⟩

set_option maxHeartbeats 400000 in
theorem back_long (s : ByteArray) (n m : Int) (w : World) (hm : s.size ≤ maxLen) (hs : 300 < s.size) :
    Calls Tryd.prog 5 #[.string s, .agg #[.int .i64 n, .int .i64 m]] w fun e w' => e = .returned (.bool true) ∧ Below w.heap.size w w' := by
  unfold maxLen at hm
  go_enter Tryd.func5, Tryd.ntmps5
  go_wp2_with (go_at_call 9; (with_reducible refine (alive_any _).mono ?_); rintro e w' ⟨rfl, rfl⟩)
  go_ret
  refine ⟨rfl, ?_⟩
  go_grown

theorem o00 : FloatKind.f64.format.order 0 0 = some .eq := by decide

set_option maxHeartbeats 1000000 in
theorem back_low (s : ByteArray) (n m : Int) (a b : Nat) (q : Int) (w : World) (hs : s.size ≤ 300) (hn : n < 0)
    (h1 : ∀ w, Calls Tryd.prog 10 #[.string s, .int .i64 n] w fun e w' => e = .returned (.tuple #[.complex .f64 0 0, .int .i64 11]) ∧ w = w')
    (h2 : ∀ w, Calls Tryd.prog 10 #[.string s, .int .i64 m] w fun e w' => e = .returned (.tuple #[.complex .f64 a b, .int .i64 q]) ∧ w = w') :
    Calls Tryd.prog 5 #[.string s, .agg #[.int .i64 n, .int .i64 m]] w fun e w' => e = .returned (.bool true) ∧ Below w.heap.size w w' := by
  have H1 := Lib.hid h1
  have H2 := Lib.hid h2
  have o := o00
  clear h1 h2
  go_enter Tryd.func5, Tryd.ntmps5
  go_wp2_with fail
  go_at_call 10
  (with_reducible refine (H1.out _).mono ?_)
  rintro e w' ⟨rfl, rfl⟩
  go_wp2_with fail
  go_at_call 10
  (with_reducible refine (H2.out _).mono ?_)
  rintro e w' ⟨rfl, rfl⟩
  go_wp2_with fail
  go_at_call 9
  (with_reducible refine (alive_any _).mono ?_)
  rintro e w' ⟨rfl, rfl⟩
  go_wp2_with fail
  go_ret
  refine ⟨rfl, ?_⟩
  go_grown

set_option maxHeartbeats 1000000 in
theorem back_high (s : ByteArray) (n m : Int) (a b : Nat) (q : Int) (w : World) (hs : s.size ≤ 300) (h0 : 0 ≤ n) (hn : (s.size : Int) < n)
    (h1 : ∀ w, Calls Tryd.prog 10 #[.string s, .int .i64 n] w fun e w' => e = .returned (.tuple #[.complex .f64 0 0, .int .i64 11]) ∧ w = w')
    (h2 : ∀ w, Calls Tryd.prog 10 #[.string s, .int .i64 m] w fun e w' => e = .returned (.tuple #[.complex .f64 a b, .int .i64 q]) ∧ w = w') :
    Calls Tryd.prog 5 #[.string s, .agg #[.int .i64 n, .int .i64 m]] w fun e w' => e = .returned (.bool true) ∧ Below w.heap.size w w' := by
  have H1 := Lib.hid h1
  have H2 := Lib.hid h2
  have o := o00
  clear h1 h2
  go_enter Tryd.func5, Tryd.ntmps5
  go_wp2_with fail
  go_at_call 10
  (with_reducible refine (H1.out _).mono ?_)
  rintro e w' ⟨rfl, rfl⟩
  go_wp2_with fail
  go_at_call 10
  (with_reducible refine (H2.out _).mono ?_)
  rintro e w' ⟨rfl, rfl⟩
  go_wp2_with fail
  go_at_call 9
  (with_reducible refine (alive_any _).mono ?_)
  rintro e w' ⟨rfl, rfl⟩
  go_wp2_with fail
  go_ret
  refine ⟨rfl, ?_⟩
  go_grown

set_option maxHeartbeats 1000000 in
theorem back_in_low (s : ByteArray) (n m : Int) (a b a' b' : Nat)  (w : World) (hs : s.size ≤ 300) (n0 : 0 ≤ n) (n1 : n ≤ s.size)
    (h1 : ∀ w, Calls Tryd.prog 10 #[.string s, .int .i64 n] w fun e w' => e = .returned (.tuple #[.complex .f64 a b, .int .i64 0]) ∧ w = w')
    (h3 : ∀ w, Calls Tryd.prog 12 #[.string s, .complex .f64 a b] w fun e w' => e = .returned (.tuple #[.int .i64 n, .int .i64 0]) ∧ w = w')
    (h2 : ∀ w, Calls Tryd.prog 10 #[.string s, .int .i64 m] w fun e w' => e = .returned (.tuple #[.complex .f64 a' b', .int .i64 11]) ∧ w = w')
    (hm : m < 0) :
    Calls Tryd.prog 5 #[.string s, .agg #[.int .i64 n, .int .i64 m]] w fun e w' => e = .returned (.bool true) ∧ Below w.heap.size w w' := by
  have H1 := Lib.hid h1
  have H2 := Lib.hid h2
  have H3 := Lib.hid h3
  clear h1 h2 h3
  go_enter Tryd.func5, Tryd.ntmps5
  go_wp2_with fail
  go_at_call 10
  (with_reducible refine (H1.out _).mono ?_)
  rintro e w' ⟨rfl, rfl⟩
  go_wp2_with fail
  go_at_call 10
  (with_reducible refine (H2.out _).mono ?_)
  rintro e w' ⟨rfl, rfl⟩
  go_wp2_with fail
  go_at_call 12
  (with_reducible refine (H3.out _).mono ?_)
  rintro e w' ⟨rfl, rfl⟩
  go_wp2_with fail
  go_at_call 9
  (with_reducible refine (alive_any _).mono ?_)
  rintro e w' ⟨rfl, rfl⟩
  go_wp2_with fail
  go_ret
  refine ⟨rfl, ?_⟩
  go_grown

set_option maxHeartbeats 1000000 in
theorem back_in_high (s : ByteArray) (n m : Int) (a b a' b' : Nat)  (w : World) (hs : s.size ≤ 300) (n0 : 0 ≤ n) (n1 : n ≤ s.size)
    (h1 : ∀ w, Calls Tryd.prog 10 #[.string s, .int .i64 n] w fun e w' => e = .returned (.tuple #[.complex .f64 a b, .int .i64 0]) ∧ w = w')
    (h3 : ∀ w, Calls Tryd.prog 12 #[.string s, .complex .f64 a b] w fun e w' => e = .returned (.tuple #[.int .i64 n, .int .i64 0]) ∧ w = w')
    (h2 : ∀ w, Calls Tryd.prog 10 #[.string s, .int .i64 m] w fun e w' => e = .returned (.tuple #[.complex .f64 a' b', .int .i64 11]) ∧ w = w')
    (m0 : 0 ≤ m) (hm : (s.size : Int) < m) :
    Calls Tryd.prog 5 #[.string s, .agg #[.int .i64 n, .int .i64 m]] w fun e w' => e = .returned (.bool true) ∧ Below w.heap.size w w' := by
  have H1 := Lib.hid h1
  have H2 := Lib.hid h2
  have H3 := Lib.hid h3
  clear h1 h2 h3
  go_enter Tryd.func5, Tryd.ntmps5
  go_wp2_with fail
  go_at_call 10
  (with_reducible refine (H1.out _).mono ?_)
  rintro e w' ⟨rfl, rfl⟩
  go_wp2_with fail
  go_at_call 10
  (with_reducible refine (H2.out _).mono ?_)
  rintro e w' ⟨rfl, rfl⟩
  go_wp2_with fail
  go_at_call 12
  (with_reducible refine (H3.out _).mono ?_)
  rintro e w' ⟨rfl, rfl⟩
  go_wp2_with fail
  go_at_call 9
  (with_reducible refine (alive_any _).mono ?_)
  rintro e w' ⟨rfl, rfl⟩
  go_wp2_with fail
  go_ret
  refine ⟨rfl, ?_⟩
  go_grown

set_option maxHeartbeats 1000000 in
theorem back_in_lt (s : ByteArray) (n m : Int) (a b a' b' : Nat)  (w : World) (hs : s.size ≤ 300) (n0 : 0 ≤ n) (n1 : n ≤ s.size)
    (h1 : ∀ w, Calls Tryd.prog 10 #[.string s, .int .i64 n] w fun e w' => e = .returned (.tuple #[.complex .f64 a b, .int .i64 0]) ∧ w = w')
    (h3 : ∀ w, Calls Tryd.prog 12 #[.string s, .complex .f64 a b] w fun e w' => e = .returned (.tuple #[.int .i64 n, .int .i64 0]) ∧ w = w')
    (h2 : ∀ w, Calls Tryd.prog 10 #[.string s, .int .i64 m] w fun e w' => e = .returned (.tuple #[.complex .f64 a' b', .int .i64 0]) ∧ w = w')
    (h4 : ∀ w, Calls Tryd.prog 17 #[.complex .f64 a b, .complex .f64 a' b'] w fun e w' => e = .returned (.int .i64 (-1)) ∧ w = w')
    (hm : n < m) :
    Calls Tryd.prog 5 #[.string s, .agg #[.int .i64 n, .int .i64 m]] w fun e w' => e = .returned (.bool true) ∧ Below w.heap.size w w' := by
  have H1 := Lib.hid h1
  have H2 := Lib.hid h2
  have H3 := Lib.hid h3
  have H4 := Lib.hid h4
  clear h1 h2 h3 h4
  go_enter Tryd.func5, Tryd.ntmps5
  go_wp2_with fail
  go_at_call 10
  (with_reducible refine (H1.out _).mono ?_)
  rintro e w' ⟨rfl, rfl⟩
  go_wp2_with fail
  go_at_call 10
  (with_reducible refine (H2.out _).mono ?_)
  rintro e w' ⟨rfl, rfl⟩
  go_wp2_with fail
  go_at_call 12
  (with_reducible refine (H3.out _).mono ?_)
  rintro e w' ⟨rfl, rfl⟩
  go_wp2_with fail
  go_at_call 9
  (with_reducible refine (alive_any _).mono ?_)
  rintro e w' ⟨rfl, rfl⟩
  go_wp2_with fail
  go_at_call 17
  (with_reducible refine (H4.out _).mono ?_)
  rintro e w' ⟨rfl, rfl⟩
  go_wp2_with fail
  go_ret
  refine ⟨rfl, ?_⟩
  go_grown

set_option maxHeartbeats 1000000 in
theorem back_in_gt (s : ByteArray) (n m : Int) (a b a' b' : Nat)  (w : World) (hs : s.size ≤ 300) (n0 : 0 ≤ n) (n1 : n ≤ s.size)
    (h1 : ∀ w, Calls Tryd.prog 10 #[.string s, .int .i64 n] w fun e w' => e = .returned (.tuple #[.complex .f64 a b, .int .i64 0]) ∧ w = w')
    (h3 : ∀ w, Calls Tryd.prog 12 #[.string s, .complex .f64 a b] w fun e w' => e = .returned (.tuple #[.int .i64 n, .int .i64 0]) ∧ w = w')
    (h2 : ∀ w, Calls Tryd.prog 10 #[.string s, .int .i64 m] w fun e w' => e = .returned (.tuple #[.complex .f64 a' b', .int .i64 0]) ∧ w = w')
    (h4 : ∀ w, Calls Tryd.prog 17 #[.complex .f64 a b, .complex .f64 a' b'] w fun e w' => e = .returned (.int .i64 (1)) ∧ w = w')
    (hm : m < n) :
    Calls Tryd.prog 5 #[.string s, .agg #[.int .i64 n, .int .i64 m]] w fun e w' => e = .returned (.bool true) ∧ Below w.heap.size w w' := by
  have H1 := Lib.hid h1
  have H2 := Lib.hid h2
  have H3 := Lib.hid h3
  have H4 := Lib.hid h4
  clear h1 h2 h3 h4
  go_enter Tryd.func5, Tryd.ntmps5
  go_wp2_with fail
  go_at_call 10
  (with_reducible refine (H1.out _).mono ?_)
  rintro e w' ⟨rfl, rfl⟩
  go_wp2_with fail
  go_at_call 10
  (with_reducible refine (H2.out _).mono ?_)
  rintro e w' ⟨rfl, rfl⟩
  go_wp2_with fail
  go_at_call 12
  (with_reducible refine (H3.out _).mono ?_)
  rintro e w' ⟨rfl, rfl⟩
  go_wp2_with fail
  go_at_call 9
  (with_reducible refine (alive_any _).mono ?_)
  rintro e w' ⟨rfl, rfl⟩
  go_wp2_with fail
  go_at_call 17
  (with_reducible refine (H4.out _).mono ?_)
  rintro e w' ⟨rfl, rfl⟩
  go_wp2_with fail
  go_ret
  refine ⟨rfl, ?_⟩
  go_grown

set_option maxHeartbeats 1000000 in
theorem back_in_eq (s : ByteArray) (n m : Int) (a b a' b' : Nat)  (w : World) (hs : s.size ≤ 300) (n0 : 0 ≤ n) (n1 : n ≤ s.size)
    (h1 : ∀ w, Calls Tryd.prog 10 #[.string s, .int .i64 n] w fun e w' => e = .returned (.tuple #[.complex .f64 a b, .int .i64 0]) ∧ w = w')
    (h3 : ∀ w, Calls Tryd.prog 12 #[.string s, .complex .f64 a b] w fun e w' => e = .returned (.tuple #[.int .i64 n, .int .i64 0]) ∧ w = w')
    (h2 : ∀ w, Calls Tryd.prog 10 #[.string s, .int .i64 m] w fun e w' => e = .returned (.tuple #[.complex .f64 a' b', .int .i64 0]) ∧ w = w')
    (h4 : ∀ w, Calls Tryd.prog 17 #[.complex .f64 a b, .complex .f64 a' b'] w fun e w' => e = .returned (.int .i64 (0)) ∧ w = w')
    (hm : n ≤ m) (hm' : m ≤ n) :
    Calls Tryd.prog 5 #[.string s, .agg #[.int .i64 n, .int .i64 m]] w fun e w' => e = .returned (.bool true) ∧ Below w.heap.size w w' := by
  have H1 := Lib.hid h1
  have H2 := Lib.hid h2
  have H3 := Lib.hid h3
  have H4 := Lib.hid h4
  clear h1 h2 h3 h4
  go_enter Tryd.func5, Tryd.ntmps5
  go_wp2_with fail
  go_at_call 10
  (with_reducible refine (H1.out _).mono ?_)
  rintro e w' ⟨rfl, rfl⟩
  go_wp2_with fail
  go_at_call 10
  (with_reducible refine (H2.out _).mono ?_)
  rintro e w' ⟨rfl, rfl⟩
  go_wp2_with fail
  go_at_call 12
  (with_reducible refine (H3.out _).mono ?_)
  rintro e w' ⟨rfl, rfl⟩
  go_wp2_with fail
  go_at_call 9
  (with_reducible refine (alive_any _).mono ?_)
  rintro e w' ⟨rfl, rfl⟩
  go_wp2_with fail
  go_at_call 17
  (with_reducible refine (H4.out _).mono ?_)
  rintro e w' ⟨rfl, rfl⟩
  go_wp2_with fail
  go_ret
  refine ⟨rfl, ?_⟩
  go_grown

theorem back_any (s : ByteArray) (n m : Int) (w : World) (hm : s.size ≤ maxLen) :
    Calls Tryd.prog 5 #[.string s, .agg #[.int .i64 n, .int .i64 m]] w fun e w' => e = .returned (.bool true) ∧ Below w.heap.size w w' := by
  by_cases hs : 300 < s.size
  · exact back_long s n m w hm hs
  have hs' : s.size ≤ 300 := by omega
  by_cases hn : n < 0 ∨ (s.size : Int) < n
  · obtain ⟨a, b, q, h2⟩ := at_some s m hs'
    by_cases h0 : n < 0
    · exact back_low s n m a b q w hs' h0 (fun w => at_out s n w hn) h2
    · exact back_high s n m a b q w hs' (by omega) (by omega) (fun w => at_out s n w hn) h2
  obtain ⟨k, rfl⟩ := Int.eq_ofNat_of_zero_le (show 0 ≤ n by omega)
  obtain ⟨a, b, hab⟩ : ∃ a b, pl (s.data.toList.take k) = (a, b) := ⟨_, _, rfl⟩
  have hk : k ≤ s.size := by omega
  have ba := pl_take_le s k
  rw [hab] at ba
  simp only at ba
  have h1 : ∀ w, Calls Tryd.prog 10 #[.string s, .int .i64 k] w fun e w' => e = .returned (.tuple #[.complex .f64 (rungOf a) (rungOf b), .int .i64 0]) ∧ w = w' := by
    intro w
    have := at_in s k w (by omega) hk
    rw [hab] at this
    exact this
  have h3 : ∀ w, Calls Tryd.prog 12 #[.string s, .complex .f64 (rungOf a) (rungOf b)] w fun e w' => e = .returned (.tuple #[.int .i64 k, .int .i64 0]) ∧ w = w' := by
    intro w
    have := index_any s (rungOf a) (rungOf b) w (by omega)
    rw [idx_of s k a b (by omega) hk hab s.size 0 (by omega) (by omega)] at this
    exact this
  by_cases hm : m < 0 ∨ (s.size : Int) < m
  · have h2 : ∀ w, Calls Tryd.prog 10 #[.string s, .int .i64 m] w fun e w' => e = .returned (.tuple #[.complex .f64 0 0, .int .i64 11]) ∧ w = w' := fun w => at_out s m w hm
    by_cases h0 : m < 0
    · exact back_in_low s k m _ _ 0 0 w hs' (by omega) (by omega) h1 h3 h2 h0
    · exact back_in_high s k m _ _ 0 0 w hs' (by omega) (by omega) h1 h3 h2 (by omega) (by omega)
  obtain ⟨j, rfl⟩ := Int.eq_ofNat_of_zero_le (show 0 ≤ m by omega)
  obtain ⟨a', b', hab'⟩ : ∃ a b, pl (s.data.toList.take j) = (a, b) := ⟨_, _, rfl⟩
  have hj : j ≤ s.size := by omega
  have ba' := pl_take_le s j
  rw [hab'] at ba'
  simp only at ba'
  have h2 : ∀ w, Calls Tryd.prog 10 #[.string s, .int .i64 j] w fun e w' => e = .returned (.tuple #[.complex .f64 (rungOf a') (rungOf b'), .int .i64 0]) ∧ w = w' := by
    intro w
    have := at_in s j w (by omega) hj
    rw [hab'] at this
    exact this
  rcases Nat.lt_trichotomy k j with h | h | h
  · have ha := ahead_of_lt s k j h hj
    rw [hab, hab'] at ha
    have hc := ordC_ahead a b a' b' ha (by omega) (by omega)
    exact back_in_lt s k j _ _ _ _ w hs' (by omega) (by omega) h1 h3 h2 (fun w => by rw [← hc]; exact compare_any _ _ _ _ w) (by omega)
  · subst h
    rw [hab] at hab'
    obtain ⟨rfl, rfl⟩ : a = a' ∧ b = b' := by simpa using hab'
    exact back_in_eq s k k _ _ _ _ w hs' (by omega) (by omega) h1 h3 h2 (fun w => by have := compare_any (rungOf a) (rungOf b) (rungOf a) (rungOf b) w; rwa [ordC_same] at this) (by omega) (by omega)
  · have ha := ahead_of_lt s j k h hk
    rw [hab, hab'] at ha
    have hc := ordC_ahead a' b' a b ha (by omega) (by omega)
    have hc2 : ordC (rungOf a) (rungOf b) (rungOf a') (rungOf b') = 1 := by rw [ordC_anti, hc]; rfl
    exact back_in_gt s k j _ _ _ _ w hs' (by omega) (by omega) h1 h3 h2 (fun w => by rw [← hc2]; exact compare_any _ _ _ _ w) (by omega)
end Go.Proofs.YtfdldhpbdllmeaaDoor

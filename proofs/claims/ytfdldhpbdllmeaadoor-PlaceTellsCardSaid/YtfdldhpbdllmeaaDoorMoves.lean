/-
  The walk of PlaceMoves: it returns true and leaves the world as it was. Condition: the text is no longer than a machine's.
-/
import Derived.Test.YtfdldhpbdllmeaaDoorAlive
namespace Go.Proofs.YtfdldhpbdllmeaaDoor
open Go.RowKit

theorem ord_eq (n : Nat) (h : n < 9007199254740992) : FloatKind.f64.format.order (rungOf n) (rungOf n) = some .eq := by
  have := rung_order n n h h
  rwa [Nat.compare_eq_eq.2 rfl] at this
theorem ord_lt (m n : Nat) (h : n < 9007199254740992) (k : m < n) : FloatKind.f64.format.order (rungOf m) (rungOf n) = some .lt := by
  have := rung_order m n (by omega) h
  rwa [Nat.compare_eq_lt.2 k] at this
theorem ord_gt (m n : Nat) (h : m < 9007199254740992) (k : n < m) : FloatKind.f64.format.order (rungOf m) (rungOf n) = some .gt := by
  have := rung_order m n h (by omega)
  rwa [Nat.compare_eq_gt.2 k] at this
theorem ge_one (n : Nat) (h : n < 9007199254740992) (k : 1 ≤ n) : (FloatKind.f64.format.order (rungOf n) 4607182418800017408 == some .gt || FloatKind.f64.format.order (rungOf n) 4607182418800017408 == some .eq) = true := by
  rw [← rung1]
  by_cases e : n = 1
  · subst e; rw [ord_eq 1 h]; rfl
  · rw [ord_gt n 1 h (by omega)]; rfl

theorem pl_snoc (l : List UInt8) (c : UInt8) : pl (l ++ [c]) = bh (pl l) c := by
  unfold pl bh
  rw [cnt_snoc]
  unfold step
  split <;> simp
theorem mv_one (p : Nat × Nat) (c : UInt8) : mv p [c] = bh p c := by
  unfold mv bh
  have h : cnt [c] = step (0, 0) c := rfl
  rw [h]
  unfold step
  split <;> simp
theorem pl_le (l : List UInt8) : (pl l).1 ≤ l.length + 1 ∧ (pl l).2 ≤ l.length + 1 ∧ 1 ≤ (pl l).1 ∧ 1 ≤ (pl l).2 := by
  have := cnt_le l
  unfold pl
  simp only
  omega

theorem r_imag (b : Nat) (h : b + 1 < 9007199254740992) (w : World) : (binOp .add 22 (.float .f64 (rungOf b)) (.float .f64 4607182418800017408)).run Tryd.prog w = .ok (.float .f64 (rungOf (b + 1))) w :=
  run_float_arith w .add _ .f64 _ _ _ (by rw [← rung1]; exact fadd _ _ h)

theorem extract_one (s : ByteArray) (k : Nat) (h : k < s.size) : (s.extract k (k + 1)).data.toList = [s[k]] := by
  simp
  rw [List.drop_eq_getElem_cons (by simpa using h)]
  rfl

set_option maxHeartbeats 400000 in
theorem moves_in (s : ByteArray) (k : Nat) (w : World) (hs : s.size ≤ 300) (hk : k < s.size) :
    Calls Tryd.prog 8 #[.string s, .int .i64 k] w fun e w' => e = .returned (.bool true) ∧ w = w' := by
  obtain ⟨a, b, hab⟩ : ∃ a b, pl (s.data.toList.take k) = (a, b) := ⟨_, _, rfl⟩
  obtain ⟨a', b', hab'⟩ : ∃ a b, pl (s.data.toList.take (k + 1)) = (a, b) := ⟨_, _, rfl⟩
  have hl := pl_le (s.data.toList.take k)
  have hl' := pl_le (s.data.toList.take (k + 1))
  have z1 := List.length_take_le k s.data.toList
  have z2 := List.length_take_le (k + 1) s.data.toList
  rw [hab] at hl
  rw [hab'] at hl'
  simp only at hl hl'
  have hst : bh (a, b) s[k] = (a', b') := by rw [← hab, ← hab', take_snoc s k hk, pl_snoc]
  have hA : ∀ w : World, Calls Tryd.prog 10 #[.string s, .int .i64 k] w fun e w' => e = .returned (.tuple #[.complex .f64 (rungOf a) (rungOf b), .int .i64 0]) ∧ w = w' := by
    intro w
    have := at_in s k w (by omega) (by omega)
    rw [hab] at this
    exact this
  have hB : ∀ w : World, Calls Tryd.prog 10 #[.string s, .int .i64 ((k : Int) + 1)] w fun e w' => e = .returned (.tuple #[.complex .f64 (rungOf a') (rungOf b'), .int .i64 0]) ∧ w = w' := by
    intro w
    have := at_in s (k + 1) w (by omega) (by omega)
    rw [hab'] at this
    exact this
  have hM : ∀ w : World, Calls Tryd.prog 15 #[.complex .f64 (rungOf a) (rungOf b), .string (s.extract k (k + 1))] w fun e w' => e = .returned (.complex .f64 (rungOf a') (rungOf b')) ∧ w = w' := by
    intro w
    have := moved_any (a, b) (s.extract k (k + 1)) w (by simp; omega) (by simp only; omega) (by simp only; omega)
    rw [extract_one s k hk, mv_one, hst] at this
    exact this
  have HA := Lib.hid hA
  have HB := Lib.hid hB
  have HM := Lib.hid hM
  have o1 := ord_eq a' (by omega)
  have o2 := ord_eq b' (by omega)
  have g1 := ge_one a (by omega) (by omega)
  have g2 := ge_one b (by omega) (by omega)
  have p1 : ∀ w : World, (binOp .add 22 (.float .f64 (rungOf b)) (.float .f64 4607182418800017408)).run Tryd.prog w = .ok (.float .f64 (rungOf (b + 1))) w := r_imag b (by omega)
  have p2 : ∀ w : World, (binOp .add 22 (.float .f64 (rungOf a)) (.float .f64 4607182418800017408)).run Tryd.prog w = .ok (.float .f64 (rungOf (a + 1))) w := r_imag a (by omega)
  clear hab hab' hl hl' z1 z2 hA hB hM
  by_cases hc : s[k].toNat = 10
  · have e0 : ((s[k].toNat : Int) == 10) = true := by simp [hc]
    have hst2 : (a', b') = (a + 1, 1) := by rw [← hst]; exact if_pos hc
    obtain ⟨rfl, rfl⟩ : a' = a + 1 ∧ b' = 1 := by simpa using hst2
    rw [rung1] at o2
    rw [rung1] at HB HM
    clear hst hst2 hc
    go_enter Tryd.func8, Tryd.ntmps8
    go_wp2_with fail
    go_at_call 10
    (with_reducible refine (HA.out _).mono ?_)
    rintro e w' ⟨rfl, rfl⟩
    go_wp2_with fail
    go_at_call 10
    (with_reducible refine (HB.out _).mono ?_)
    rintro e w' ⟨rfl, rfl⟩
    go_wp2_with fail
    go_at_call 9
    (with_reducible refine (alive_any _).mono ?_)
    rintro e w' ⟨rfl, rfl⟩
    go_wp2_with fail
    go_at_call 15
    (with_reducible refine (HM.out _).mono ?_)
    rintro e w' ⟨rfl, rfl⟩
    go_wp2_with fail
    go_ret
    exact ⟨rfl, rfl⟩
  · have e0 : ((s[k].toNat : Int) == 10) = false := by simp; omega
    have hst2 : (a', b') = (a, b + 1) := by rw [← hst]; exact if_neg hc
    obtain ⟨rfl, rfl⟩ : a' = a ∧ b' = b + 1 := by simpa using hst2
    clear hst hst2 hc
    go_enter Tryd.func8, Tryd.ntmps8
    go_wp2_with fail
    go_at_call 10
    (with_reducible refine (HA.out _).mono ?_)
    rintro e w' ⟨rfl, rfl⟩
    go_wp2_with fail
    go_at_call 10
    (with_reducible refine (HB.out _).mono ?_)
    rintro e w' ⟨rfl, rfl⟩
    go_wp2_with fail
    go_at_call 9
    (with_reducible refine (alive_any _).mono ?_)
    rintro e w' ⟨rfl, rfl⟩
    go_wp2_with fail
    go_at_call 15
    (with_reducible refine (HM.out _).mono ?_)
    rintro e w' ⟨rfl, rfl⟩
    go_wp2_with fail
    go_ret
    exact ⟨rfl, rfl⟩

set_option maxHeartbeats 400000 in
theorem moves_out (s : ByteArray) (n : Int) (w : World) (hs : s.size ≤ maxLen) (h : 300 < s.size ∨ n < 0 ∨ (s.size : Int) ≤ n) :
    Calls Tryd.prog 8 #[.string s, .int .i64 n] w fun e w' => e = .returned (.bool true) ∧ w = w' := by
  unfold maxLen at hs
  by_cases h1 : 300 < s.size
  · go_enter Tryd.func8, Tryd.ntmps8
    go_wp2_with (go_at_call 9; (with_reducible refine (alive_any _).mono ?_); rintro e w' ⟨rfl, rfl⟩)
    go_ret
    exact ⟨rfl, rfl⟩
  have h1' : s.size ≤ 300 := by omega
  by_cases h2 : n < 0
  · go_enter Tryd.func8, Tryd.ntmps8
    go_wp2_with (go_at_call 9; (with_reducible refine (alive_any _).mono ?_); rintro e w' ⟨rfl, rfl⟩)
    go_ret
    exact ⟨rfl, rfl⟩
  have h2' : 0 ≤ n := by omega
  have h3 : (s.size : Int) ≤ n := by omega
  clear h
  go_enter Tryd.func8, Tryd.ntmps8
  go_wp2_with (go_at_call 9; (with_reducible refine (alive_any _).mono ?_); rintro e w' ⟨rfl, rfl⟩)
  go_ret
  exact ⟨rfl, rfl⟩

theorem moves_any (s : ByteArray) (n : Int) (w : World) (hs : s.size ≤ maxLen) :
    Calls Tryd.prog 8 #[.string s, .int .i64 n] w fun e w' => e = .returned (.bool true) ∧ w = w' := by
  by_cases h : 300 < s.size ∨ n < 0 ∨ (s.size : Int) ≤ n
  · exact moves_out s n w hs h
  · obtain ⟨k, rfl⟩ := Int.eq_ofNat_of_zero_le (show 0 ≤ n by omega)
    exact moves_in s k w (by omega) (by omega)
end Go.Proofs.YtfdldhpbdllmeaaDoor

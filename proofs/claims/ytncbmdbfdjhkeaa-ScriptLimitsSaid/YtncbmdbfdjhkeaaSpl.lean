/-
  The walks of place's and the reference's functions at places whose parts are whole numbers: what each call returns; the world is as it was. Conditions: texts no longer than a machine's, numbers below 2^53.
-/
import Derived.Test.YtncbmdbfdjhkeaaCount
import Derived.Test.YtncbmdbfdjhkeaaFloat
import Derived.Test.YtncbmdbfdjhkeaaProg
import Derived.WalkSpells
import Derived.WalkLawsBesides
import Derived.ScopeJumps
import Derived.WalkMore
import Derived.Lib.Hide
namespace Go.Proofs.Ytncbmdbfdjhkeaa
open Go.RowKit

theorem step_lf (p : Nat × Nat) (c : UInt8) (h : ((c.toNat : Int) == 10) = true) : step p c = (p.1 + 1, 0) := by
  have : (c.toNat : Int) = 10 := by simpa using h
  unfold step; rw [if_pos (by omega)]
theorem step_other (p : Nat × Nat) (c : UInt8) (h : ((c.toNat : Int) == 10) = false) : step p c = (p.1, p.2 + 1) := by
  have : ¬ (c.toNat : Int) = 10 := by simpa using h
  unfold step; rw [if_neg (by omega)]

set_option maxRecDepth 100000 in
set_option maxHeartbeats 400000 in
theorem measure_any (s : ByteArray) (w : World) (hs : s.size ≤ maxLen) :
    Calls Try.prog 15 #[.string s] w fun e w' => e = .returned (.tuple #[.int .i64 (cnt s.data.toList).1, .int .i64 (cnt s.data.toList).2]) ∧ w = w' := by
  unfold maxLen at hs
  go_enter Try.func15, Try.ntmps15
  go_wp2
  refine wp_scope_jumps 0 (fun a' w' => w = w' ∧ ∃ (k f r : Nat) (u5 u6 u7 u8 u9 u10 u11 u12 u13 u14 u15 u16 u17 u18 u19 u20 : Value), k ≤ s.size ∧ f ≤ k ∧ r ≤ k ∧ Hid (cnt (s.data.toList.take k) = (f, r)) ∧ a' = { tmps := #[.string s, undef, .int .i64 f, .int .i64 r, .int .i64 k, u5, u6, u7, u8, u9, u10, u11, u12, u13, u14, u15, u16, u17, u18, u19, u20], defers := [] }) (fun a' _ => s.size - (intOf (a'.tmps.getD 4 undef)).toNat) rfl ?_ ?_
  · by_cases hlt : 0 < s.size
    · have H := Lib.hid (cnt_take_succ s 0 hlt)
      go_wp2
      go_step3
      go_wp2
      all_goals go_step3
      · exact ⟨rfl, rfl, 1, 1, 0, _, _, _, _, _, _, _, _, _, _, _, _, _, _, _, _, by omega, by omega, by omega, Lib.hid (by rw [H.out, step_lf _ _ (by assumption)]; rfl), rfl⟩
      · exact ⟨rfl, rfl, 1, 0, 1, _, _, _, _, _, _, _, _, _, _, _, _, _, _, _, _, by omega, by omega, by omega, Lib.hid (by rw [H.out, step_other _ _ (by assumption)]; rfl), rfl⟩
    · have h0 : s.size = 0 := by omega
      have H := Lib.hid h0
      clear h0
      have e0 : ((0 : Int) == (s.size : Int)) = true := by rw [H.out]; rfl
      go_wp2
      go_step3
      go_wp2
      simp only [Exit.jump]
      go_ret2
      refine ⟨?_, rfl⟩
      have := take_all s
      rw [H.out] at this
      rw [← this]; rfl
  · rintro a' w' ⟨rfl, k, f, r, u5, u6, u7, u8, u9, u10, u11, u12, u13, u14, u15, u16, u17, u18, u19, u20, hk, hf, hr, hc, rfl⟩
    by_cases hlt : k < s.size
    · have H := Lib.hid (cnt_take_succ s k hlt)
      go_wp2
      all_goals go_step3
      · exact ⟨rfl, ⟨rfl, k + 1, f + 1, 0, _, _, _, _, _, _, _, _, _, _, _, _, _, _, _, _, by omega, by omega, by omega, Lib.hid (by rw [H.out, step_lf _ _ (by assumption), hc.out]), rfl⟩, by simp [intOf]; omega⟩
      · exact ⟨rfl, ⟨rfl, k + 1, f, r + 1, _, _, _, _, _, _, _, _, _, _, _, _, _, _, _, _, by omega, by omega, by omega, Lib.hid (by rw [H.out, step_other _ _ (by assumption), hc.out]), rfl⟩, by simp [intOf]; omega⟩
    · have H := Lib.hid (show k = s.size by omega)
      have e0 : ((k : Int) == (s.size : Int)) = true := by rw [H.out]; simp
      go_wp2
      simp only [Exit.jump]
      go_ret2
      have h := hc.out
      rw [H.out, take_all] at h
      exact ⟨by rw [h]; rfl, rfl⟩

/-- A place of two whole numbers, as the program holds it. -/
def C (p : Nat × Nat) : Value := .complex .f64 (rungOf p.1) (rungOf p.2)
def mv (p : Nat × Nat) (l : List UInt8) : Nat × Nat := if (cnt l).1 = 0 then (p.1, p.2 + (cnt l).2) else (p.1 + (cnt l).1, (cnt l).2 + 1)
/-- The place of the end of a text that begins at line 1, column 1. -/
def pl (l : List UInt8) : Nat × Nat := ((cnt l).1 + 1, (cnt l).2 + 1)

/-- The place behind one byte. -/
def bh (p : Nat × Nat) (c : UInt8) : Nat × Nat := if c.toNat = 10 then (p.1 + 1, 1) else (p.1, p.2 + 1)

theorem rung0 : rungOf 0 = 0 := rfl
theorem rung1 : rungOf 1 = 4607182418800017408 := by decide
theorem rung2 : rungOf 2 = 4611686018427387904 := by decide

theorem fadd (a b : Nat) (h : a + b < 9007199254740992) : floatBits .add .f64 (rungOf a) (rungOf b) = some (rungOf (a + b)) := rung_add a b h
theorem cadd (a b c d : Nat) (h : a + c < 9007199254740992) (k : b + d < 9007199254740992) : cSumBits .add .f64 (rungOf a) (rungOf b) (rungOf c) (rungOf d) = some (rungOf (a + c), rungOf (b + d)) := by
  unfold cSumBits; rw [fadd a c h, fadd b d k]; rfl

theorem f_int (n : Nat) (h : n < 9007199254740992) : floatOfInt .f64 (n : Int) = rungOf n := floatOfInt_nat n h

set_option maxHeartbeats 400000 in
theorem moved_any (p : Nat × Nat) (s : ByteArray) (w : World) (hs : s.size ≤ 4503599627370495) (h1 : p.1 ≤ 4503599627370495) (h2 : p.2 ≤ 4503599627370495) :
    Calls Try.prog 9 #[.complex .f64 (rungOf p.1) (rungOf p.2), .string s] w fun e w' => e = .returned (C (mv p s.data.toList)) ∧ w = w' := by
  have hl := cnt_le s.data.toList
  have hz : s.data.toList.length = s.size := by simp
  by_cases hc : (cnt s.data.toList).1 = 0
  · have e0 : (((cnt s.data.toList).1 : Int) == 0) = true := by simp [hc]
    have r1 : ∀ w : World, (binOp .add 24 (.complex .f64 (rungOf p.1) (rungOf p.2)) (.complex .f64 0 (floatOfInt .f64 ((cnt s.data.toList).2 : Int)))).run Try.prog w = .ok (.complex .f64 (rungOf p.1) (rungOf (p.2 + (cnt s.data.toList).2))) w :=
      fun w => run_complex_sum w .add (.inl rfl) _ .f64 _ _ _ _ _ _ (by rw [f_int _ (by omega)]; exact cadd p.1 p.2 0 _ (by omega) (by omega))
    have H := Lib.hid hc
    have hms : s.size ≤ maxLen := by unfold maxLen; omega
    clear hc hz
    go_enter Try.func9, Try.ntmps9
    go_wp2_with (go_at_call 15; refine (measure_any s _ hms).mono ?_; rintro e w' ⟨rfl, rfl⟩)
    go_ret
    exact ⟨by unfold mv; rw [if_pos H.out]; rfl, rfl⟩
  · have e0 : (((cnt s.data.toList).1 : Int) == 0) = false := by simp; omega
    have r1 : ∀ w : World, (binOp .add 58 (.float .f64 (rungOf p.1)) (.float .f64 (floatOfInt .f64 ((cnt s.data.toList).1 : Int)))).run Try.prog w = .ok (.float .f64 (rungOf (p.1 + (cnt s.data.toList).1))) w :=
      fun w => run_float_arith w .add _ .f64 _ _ _ (by rw [f_int _ (by omega)]; exact fadd _ _ (by omega))
    have H := Lib.hid hc
    have hms : s.size ≤ maxLen := by unfold maxLen; omega
    have H2 : Hid (floatOfInt .f64 (1 + ((cnt s.data.toList).2 : Int)) = rungOf ((cnt s.data.toList).2 + 1)) := Lib.hid (by rw [← f_int _ (by omega)]; congr 1; omega)
    have hb : (cnt s.data.toList).2 ≤ s.size := by omega
    clear hc hz
    go_enter Try.func9, Try.ntmps9
    go_wp2_with (go_at_call 15; refine (measure_any s _ hms).mono ?_; rintro e w' ⟨rfl, rfl⟩)
    go_ret
    refine ⟨?_, rfl⟩
    unfold mv
    rw [if_neg H.out]
    unfold C
    rw [← H2.out]
    rfl

/-- At an index of the text: its place. -/
theorem mv_pl (l : List UInt8) : mv (1, 1) l = pl l := by
  unfold mv pl
  split
  · rename_i h; rw [h]; simp [Nat.add_comm]
  · rw [Nat.add_comm 1]

set_option maxHeartbeats 400000 in
theorem at_in (s : ByteArray) (k : Nat) (w : World) (hs : s.size ≤ 4503599627370495) (hk : k ≤ s.size) :
    Calls Try.prog 7 #[.string s, .int .i64 k] w fun e w' => e = .returned (.tuple #[C (pl (s.data.toList.take k)), .int .i64 0]) ∧ w = w' := by
  have hm : ∀ (t : ByteArray) (w : World), t.size ≤ 4503599627370495 → Calls Try.prog 9 #[.complex .f64 4607182418800017408 4607182418800017408, .string t] w fun e w' => e = .returned (C (pl t.data.toList)) ∧ w = w' := by
    intro t w ht
    have := moved_any (1, 1) t w ht (by simp) (by simp)
    rwa [mv_pl, rung1] at this
  have H := Lib.hid hm
  clear hm
  have he := Lib.hid (show (s.extract 0 k).data.toList = s.data.toList.take k by simp)
  have hsz : (s.extract 0 k).size ≤ 4503599627370495 := by simp; omega
  go_enter Try.func7, Try.ntmps7
  go_wp2_with fail
  go_at_call 9
  refine (H.out _ _ hsz).mono ?_
  rintro e w' ⟨rfl, rfl⟩
  go_wp2_with fail
  go_ret2
  exact ⟨rfl, rfl⟩

end Go.Proofs.Ytncbmdbfdjhkeaa

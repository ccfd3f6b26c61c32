/-
  AddressLines, walked: ranges of numbers. No condition.
-/
import Derived.Test.YtaagadaamnolcaaAs4
namespace Go.Proofs.Ytaagadaamnolcaa
open Go.RowKit Go.Deep

theorem line_step (a c m : Int) (la o : Bool) (h : o = (decide (a < m) && decide (m ≤ c))) : inF 1 a 1 c m la false false o = (decide (a ≤ m) && (decide (m ≤ c) || (m == a)), decide (a < m + 1) && decide (m + 1 ≤ c)) := by
  have e1 : decide (a ≤ m) = (decide (a < m) || (m == a)) := by rw [Bool.eq_iff_iff]; simp; omega
  have e2 : decide (a < m + 1) = decide (a ≤ m) := by rw [Bool.eq_iff_iff]; simp; omega
  have e3 : decide (m + 1 ≤ c) = !decide (c ≤ m) := by rw [Bool.eq_iff_iff]; simp; omega
  have e4 : (decide (a < m) && (m == a)) = false := by
    by_cases h1 : a < m
    · rw [beq_eq_false_iff_ne.2 (show m ≠ a by omega)]; simp
    · simp [h1]
  have e5 : (decide (m ≤ c) || decide (c ≤ m)) = true := by simp; omega
  rw [e2, e3, e1, h]
  show cond ((1 : Int) == 0) _ (cond (cond (decide (a < m) && decide (m ≤ c)) false (!(cond ((1 : Int) == 0) true (cond ((1 : Int) == 1) (m == a) _)))) _ (true, !(cond ((1 : Int) == 1) (decide (c ≤ m)) _))) = _
  rw [show ((1 : Int) == 0) = false from rfl, show ((1 : Int) == 1) = true from rfl]
  revert e4 e5
  cases decide (a < m) <;> cases (m == a) <;> cases decide (m ≤ c) <;> cases decide (c ≤ m) <;> simp

set_option maxRecDepth 100000 in
set_option maxHeartbeats 8000000 in
theorem lines_any (a c : Int) (nt : Bool) (w : World) : Calls Try.prog 4 #[.int .i64 a, .int .i64 c, .bool nt] w fun e w' => e = .returned (.bool true) ∧ Below w.heap.size w w' := by
  have HA := Lib.hid alive_is
  by_cases h1 : a < 1
  · have g1 : decide (a < 1) = true := decide_eq_true h1
    clear h1
    go_enter Try.func4, Try.ntmps4
    go_wp2_with fail
    go_at_call 11
    with_reducible refine (HA.out _).mono ?_
    rintro e w7 ⟨rfl, hb7⟩
    have HB7 := Lib.hid hb7
    clear hb7
    go_wp2_with fail
    go_ret
    exact ⟨rfl, HB7.out⟩

  have g1 : decide (a < 1) = false := decide_eq_false h1
  by_cases h2 : 60 < a
  · have g2 : decide (60 < a) = true := decide_eq_true h2
    clear h1 h2
    go_enter Try.func4, Try.ntmps4
    go_wp2_with fail
    go_at_call 11
    with_reducible refine (HA.out _).mono ?_
    rintro e w7 ⟨rfl, hb7⟩
    have HB7 := Lib.hid hb7
    clear hb7
    go_wp2_with fail
    go_ret
    exact ⟨rfl, HB7.out⟩

  have g2 : decide (60 < a) = false := decide_eq_false h2
  by_cases h3 : c < 1
  · have g3 : decide (c < 1) = true := decide_eq_true h3
    clear h1 h2 h3
    go_enter Try.func4, Try.ntmps4
    go_wp2_with fail
    go_at_call 11
    with_reducible refine (HA.out _).mono ?_
    rintro e w7 ⟨rfl, hb7⟩
    have HB7 := Lib.hid hb7
    clear hb7
    go_wp2_with fail
    go_ret
    exact ⟨rfl, HB7.out⟩

  have g3 : decide (c < 1) = false := decide_eq_false h3
  by_cases h4 : 60 < c
  · have g4 : decide (60 < c) = true := decide_eq_true h4
    clear h1 h2 h3 h4
    go_enter Try.func4, Try.ntmps4
    go_wp2_with fail
    go_at_call 11
    with_reducible refine (HA.out _).mono ?_
    rintro e w7 ⟨rfl, hb7⟩
    have HB7 := Lib.hid hb7
    clear hb7
    go_wp2_with fail
    go_ret
    exact ⟨rfl, HB7.out⟩

  have g4 : decide (60 < c) = false := decide_eq_false h4
  have HR := Lib.hid (show 1 ≤ a ∧ a ≤ 60 ∧ 1 ≤ c ∧ c ≤ 60 by omega)
  have HC := Lib.hid (command_is 1 a 1 c nt)
  have HS := Lib.hid fun m la o => selects_is 1 a 1 c m nt la false false o
  have HST := Lib.hid fun m la o h => line_step a c m la o h
  unfold selF lkC at HS
  clear h1 h2 h3 h4
  go_enter Try.func4, Try.ntmps4
  go_wp2_with fail
  go_at_call 8
  with_reducible refine (HC.out _).mono ?_
  rintro e w1 ⟨rfl, hb1⟩
  have HB1 := Lib.hid hb1
  clear hb1 g1 g2 g3 g4
  go_upto_region 4 with (first | (refine wpList_alloc_cm rfl rfl ?_; intro Z hZ; have HZ := Lib.hid hZ; clear hZ) | (refine wpList_put_cm rfl (.tmp 7) (.tmp 31) rfl (f := 1) (fl := a) (t := 1) (tl := c) (nt := nt) rfl rfl HZ.out ?_))
  obtain ⟨W, hW⟩ : ∃ W, W = w1.alloc (.cells (cmC 1 a 1 c nt).toArray 39) := ⟨_, rfl⟩
  obtain ⟨b, hb⟩ : ∃ b, b = w1.heap.size := ⟨_, rfl⟩
  have H0 := Lib.hid (show B1 (cmC 1 a 1 c nt) b w W by rw [hb, hW]; exact ⟨heap_alloc_new w1 _, HB1.out.alloc HB1.out.size _⟩)
  rw [← hW, ← hb]
  clear hW hb
  go_upto_region 6 with fail
  go_loopw [8, 9] (fun ov nv wz => ∃ (o : Bool) (m : Nat), ov = .bool o ∧ nv = .int .i64 (m : Int) ∧ Hid (1 ≤ m ∧ m ≤ 61 ∧ o = (decide (a < (m : Int)) && decide ((m : Int) ≤ c)) ∧ B1 (cmC 1 a 1 c nt) b w wz)) (fun _ nv _ => 61 - (intOf nv).toNat)
  case atStart => exact ⟨false, 1, rfl, rfl, Lib.hid ⟨by omega, by omega, by have := HR.out; simp; omega, H0.out⟩⟩
  case round =>
    obtain ⟨o, m, rfl, rfl, HI⟩ := hrel
    have hm := HI.out.2.1
    by_cases h60 : m ≤ 60
    case neg =>
      have d1 : decide ((m : Int) ≤ 60) = false := decide_eq_false (by omega)
      have d2 : decide (m ≤ 60) = false := decide_eq_false h60
      have d3 : (60 : Int) < (m : Int) := by omega
      clear hm h60
      go_wp2_with fail
      go_at_call 11
      with_reducible refine (HA.out _).mono ?_
      rintro e w7 ⟨rfl, hb7⟩
      have H7 := Lib.hid (HI.out.2.2.2.stays hb7)
      clear hb7
      go_wp2_with fail
      go_ret
      exact ⟨rfl, H7.out.bel⟩
    have d1 : decide ((m : Int) ≤ 60) = true := decide_eq_true (by omega)
    have d2 : decide (m ≤ 60) = true := decide_eq_true h60
    have HM := Lib.hid (show 1 ≤ m ∧ m ≤ 60 from ⟨HI.out.1, h60⟩)
    have e1 : IntKind.i64.wrap ((m : Int) + 1) = ((m + 1 : Nat) : Int) := by rw [IntWalk.i64_in _ (by omega)]; omega
    have HSM := Lib.hid (by have h := fun la => HS.out (m : Int) la o; simp only [HST.out (m : Int) _ o HI.out.2.2.1] at h; exact h : ∀ la w, Calls Try.prog 10 #[.agg (cmC 1 a 1 c nt).toArray, .bool o, .agg #[.int .i64 (m : Int), .bool la, .bool false, .bool false]] w fun e w' => e = .returned (.tuple #[.bool ((decide (a ≤ (m : Int)) && (decide ((m : Int) ≤ c) || ((m : Int) == a))) != nt), .bool (decide (a < (m : Int) + 1) && decide ((m : Int) + 1 ≤ c))]) ∧ Below w.heap.size w w')
    obtain ⟨o2, ho2⟩ : ∃ o2, o2 = (decide (a < (m : Int) + 1) && decide ((m : Int) + 1 ≤ c)) := ⟨_, rfl⟩
    rw [← ho2] at HSM
    have HO2 := Lib.hid (show o2 = (decide (a < ((m + 1 : Nat) : Int)) && decide (((m + 1 : Nat) : Int) ≤ c)) by rw [ho2]; simp)
    obtain ⟨x1, g1⟩ : ∃ x1, decide (a ≤ (m : Int)) = x1 := ⟨_, rfl⟩
    obtain ⟨x2, g2⟩ : ∃ x2, decide ((m : Int) ≤ c) = x2 := ⟨_, rfl⟩
    obtain ⟨x3, g3⟩ : ∃ x3, ((m : Int) == a) = x3 := ⟨_, rfl⟩
    rw [g1, g2, g3] at HSM
    clear hm h60 ho2
    go_wp2_with (refine wpList_load_row rfl 39 (.tmp 7) rfl b rfl 39 _ (0, 0) _ HI.out.2.2.2.one Try.underlying39 rfl size_cmd ?_)
    go_at_call 10
    with_reducible refine (HSM.out _ _).mono ?_
    rintro e w2 ⟨rfl, hb2⟩
    have H2 := Lib.hid (HI.out.2.2.2.stays hb2)
    clear hb2 HSM
    cases x1 <;> cases x2 <;> cases x3 <;> cases nt
    all_goals
      go_wp2_with fail
      refine ⟨⟨o2, m + 1, rfl, rfl, Lib.hid ⟨by omega, by have := HM.out; omega, HO2.out, H2.out⟩⟩, ?_⟩
      have := HM.out
      simp [intOf]
      omega
end Go.Proofs.Ytaagadaamnolcaa

/-
  AddressOne, walked: one address. No condition.
-/
import Derived.Test.YtaagadaamnolcaaAs4
namespace Go.Proofs.Ytaagadaamnolcaa
open Go.RowKit Go.Deep

theorem one_in (k l m : Int) (la : Bool) : inF k l 0 0 m la false false false = (holdsF k l m la false, false) := rfl

set_option maxRecDepth 100000 in
set_option maxHeartbeats 8000000 in
theorem one_0 (l : Int) (nt : Bool) (w : World) : Calls Try.prog 7 #[.int .i64 l, .int .i64 0, .bool nt] w fun e w' => e = .returned (.bool true) ∧ Below w.heap.size w w' := by
  have HA := Lib.hid alive_is
  have HC := Lib.hid (command_is 0 l 0 0 nt)
  have HS := Lib.hid (show ∀ (m : Nat) (w : World), Calls Try.prog 10 #[.agg (cmC 0 l 0 0 nt).toArray, .bool false, .agg #[.int .i64 (m : Int), .bool ((m : Int) == 60), .bool false, .bool false]] w fun e w' => e = .returned (.tuple #[.bool (true != nt), .bool false]) ∧ Below w.heap.size w w' from fun m w => selects_is 0 l 0 0 (m : Int) nt ((m : Int) == 60) false false false w)
  go_enter Try.func7, Try.ntmps7
  go_wp2_with fail
  go_at_call 8
  with_reducible refine (HC.out _).mono ?_
  rintro e w1 ⟨rfl, hb1⟩
  have HB1 := Lib.hid (show Below w.heap.size w w1 from (bW w _).trans (hb1.mono (by rw [World.size_alloc]; omega)))
  clear hb1
  go_upto_region 4 with (first | (refine wpList_alloc_cm rfl rfl ?_; intro Z hZ; have HZ := Lib.hid hZ; clear hZ) | (refine wpList_put_cm rfl (.tmp 7) (.tmp 26) rfl (f := 0) (fl := l) (t := 0) (tl := 0) (nt := nt) rfl rfl HZ.out ?_))
  obtain ⟨W, hW⟩ : ∃ W, W = w1.alloc (.cells (cmC 0 l 0 0 nt).toArray 39) := ⟨_, rfl⟩
  obtain ⟨b, hb⟩ : ∃ b, b = w1.heap.size := ⟨_, rfl⟩
  have H0 := Lib.hid (show B1 (cmC 0 l 0 0 nt) b w W by rw [hb, hW]; exact ⟨heap_alloc_new w1 _, HB1.out.alloc HB1.out.size _⟩)
  rw [← hW, ← hb]
  clear hW hb
  go_upto_region 5 with fail
  go_loopw [8] (fun nv wz => ∃ m : Nat, nv = .int .i64 (m : Int) ∧ Hid (1 ≤ m ∧ m ≤ 61 ∧ B1 (cmC 0 l 0 0 nt) b w wz)) (fun nv _ => 61 - (intOf nv).toNat)
  case atStart => exact ⟨1, rfl, Lib.hid ⟨by omega, by omega, H0.out⟩⟩
  case round =>
    obtain ⟨m, rfl, HI⟩ := hrel
    have hm := HI.out.2.1
    by_cases h60 : m ≤ 60
    case neg =>
      have d1 : decide ((m : Int) ≤ 60) = false := decide_eq_false (by omega)
      have d2 : decide (m ≤ 60) = false := decide_eq_false h60
      have d3 : (60 : Int) < (m : Int) := by omega
      have HB6 := Lib.hid HI.out.2.2.bel
      clear hm h60
      go_wp2_with fail
      go_at_call 11
      with_reducible refine (HA.out _).mono ?_
      rintro e w7 ⟨rfl, hb7⟩
      have HB7 := Lib.hid (HB6.out.trans (hb7.mono HB6.out.size))
      clear hb7
      go_wp2_with fail
      go_ret
      exact ⟨rfl, HB7.out⟩
    have d1 : decide ((m : Int) ≤ 60) = true := decide_eq_true (by omega)
    have d2 : decide (m ≤ 60) = true := decide_eq_true h60
    have HM := Lib.hid (show 1 ≤ m ∧ m ≤ 60 from ⟨HI.out.1, h60⟩)
    have e1 : IntKind.i64.wrap ((m : Int) + 1) = ((m + 1 : Nat) : Int) := by rw [IntWalk.i64_in _ (by omega)]; omega
    have HSM := Lib.hid (HS.out m)
    clear hm h60 HS
    go_wp2_with (refine wpList_load_row rfl 39 (.tmp 7) rfl b rfl 39 _ (0, 0) _ HI.out.2.2.one Try.underlying39 rfl size_cmd ?_)
    go_at_call 10
    with_reducible refine (HSM.out _).mono ?_
    rintro e w2 ⟨rfl, hb2⟩
    have H2 := Lib.hid (HI.out.2.2.stays hb2)
    clear hb2 HSM
    cases nt
    all_goals
      go_wp2_with fail
      refine ⟨⟨m + 1, rfl, Lib.hid ⟨by omega, by have := HM.out; omega, H2.out⟩⟩, ?_⟩
      have := HM.out
      simp [intOf]
      omega
set_option maxRecDepth 100000 in
set_option maxHeartbeats 8000000 in
theorem one_1 (l : Int) (nt : Bool) (w : World) : Calls Try.prog 7 #[.int .i64 l, .int .i64 1, .bool nt] w fun e w' => e = .returned (.bool true) ∧ Below w.heap.size w w' := by
  have HA := Lib.hid alive_is
  have HC := Lib.hid (command_is 1 l 0 0 nt)
  have HS := Lib.hid (show ∀ (m : Nat) (w : World), Calls Try.prog 10 #[.agg (cmC 1 l 0 0 nt).toArray, .bool false, .agg #[.int .i64 (m : Int), .bool ((m : Int) == 60), .bool false, .bool false]] w fun e w' => e = .returned (.tuple #[.bool (((m : Int) == l) != nt), .bool false]) ∧ Below w.heap.size w w' from fun m w => selects_is 1 l 0 0 (m : Int) nt ((m : Int) == 60) false false false w)
  go_enter Try.func7, Try.ntmps7
  go_wp2_with fail
  go_at_call 8
  with_reducible refine (HC.out _).mono ?_
  rintro e w1 ⟨rfl, hb1⟩
  have HB1 := Lib.hid (show Below w.heap.size w w1 from (bW w _).trans (hb1.mono (by rw [World.size_alloc]; omega)))
  clear hb1
  go_upto_region 4 with (first | (refine wpList_alloc_cm rfl rfl ?_; intro Z hZ; have HZ := Lib.hid hZ; clear hZ) | (refine wpList_put_cm rfl (.tmp 7) (.tmp 26) rfl (f := 1) (fl := l) (t := 0) (tl := 0) (nt := nt) rfl rfl HZ.out ?_))
  obtain ⟨W, hW⟩ : ∃ W, W = w1.alloc (.cells (cmC 1 l 0 0 nt).toArray 39) := ⟨_, rfl⟩
  obtain ⟨b, hb⟩ : ∃ b, b = w1.heap.size := ⟨_, rfl⟩
  have H0 := Lib.hid (show B1 (cmC 1 l 0 0 nt) b w W by rw [hb, hW]; exact ⟨heap_alloc_new w1 _, HB1.out.alloc HB1.out.size _⟩)
  rw [← hW, ← hb]
  clear hW hb
  go_upto_region 5 with fail
  go_loopw [8] (fun nv wz => ∃ m : Nat, nv = .int .i64 (m : Int) ∧ Hid (1 ≤ m ∧ m ≤ 61 ∧ B1 (cmC 1 l 0 0 nt) b w wz)) (fun nv _ => 61 - (intOf nv).toNat)
  case atStart => exact ⟨1, rfl, Lib.hid ⟨by omega, by omega, H0.out⟩⟩
  case round =>
    obtain ⟨m, rfl, HI⟩ := hrel
    have hm := HI.out.2.1
    by_cases h60 : m ≤ 60
    case neg =>
      have d1 : decide ((m : Int) ≤ 60) = false := decide_eq_false (by omega)
      have d2 : decide (m ≤ 60) = false := decide_eq_false h60
      have d3 : (60 : Int) < (m : Int) := by omega
      have HB6 := Lib.hid HI.out.2.2.bel
      clear hm h60
      go_wp2_with fail
      go_at_call 11
      with_reducible refine (HA.out _).mono ?_
      rintro e w7 ⟨rfl, hb7⟩
      have HB7 := Lib.hid (HB6.out.trans (hb7.mono HB6.out.size))
      clear hb7
      go_wp2_with fail
      go_ret
      exact ⟨rfl, HB7.out⟩
    have d1 : decide ((m : Int) ≤ 60) = true := decide_eq_true (by omega)
    have d2 : decide (m ≤ 60) = true := decide_eq_true h60
    have HM := Lib.hid (show 1 ≤ m ∧ m ≤ 60 from ⟨HI.out.1, h60⟩)
    have e1 : IntKind.i64.wrap ((m : Int) + 1) = ((m + 1 : Nat) : Int) := by rw [IntWalk.i64_in _ (by omega)]; omega
    have HSM := Lib.hid (HS.out m)
    clear hm h60 HS
    obtain ⟨x, gx⟩ : ∃ x, ((m : Int) == l) = x := ⟨_, rfl⟩
    rw [gx] at HSM
    go_wp2_with (refine wpList_load_row rfl 39 (.tmp 7) rfl b rfl 39 _ (0, 0) _ HI.out.2.2.one Try.underlying39 rfl size_cmd ?_)
    go_at_call 10
    with_reducible refine (HSM.out _).mono ?_
    rintro e w2 ⟨rfl, hb2⟩
    have H2 := Lib.hid (HI.out.2.2.stays hb2)
    clear hb2 HSM
    cases x <;> cases nt
    all_goals
      go_wp2_with fail
      refine ⟨⟨m + 1, rfl, Lib.hid ⟨by omega, by have := HM.out; omega, H2.out⟩⟩, ?_⟩
      have := HM.out
      simp [intOf]
      omega
set_option maxRecDepth 100000 in
set_option maxHeartbeats 8000000 in
theorem one_2 (l : Int) (nt : Bool) (w : World) : Calls Try.prog 7 #[.int .i64 l, .int .i64 2, .bool nt] w fun e w' => e = .returned (.bool true) ∧ Below w.heap.size w w' := by
  have HA := Lib.hid alive_is
  have HC := Lib.hid (command_is 2 l 0 0 nt)
  have HS := Lib.hid (show ∀ (m : Nat) (w : World), Calls Try.prog 10 #[.agg (cmC 2 l 0 0 nt).toArray, .bool false, .agg #[.int .i64 (m : Int), .bool ((m : Int) == 60), .bool false, .bool false]] w fun e w' => e = .returned (.tuple #[.bool (((m : Int) == 60) != nt), .bool false]) ∧ Below w.heap.size w w' from fun m w => selects_is 2 l 0 0 (m : Int) nt ((m : Int) == 60) false false false w)
  go_enter Try.func7, Try.ntmps7
  go_wp2_with fail
  go_at_call 8
  with_reducible refine (HC.out _).mono ?_
  rintro e w1 ⟨rfl, hb1⟩
  have HB1 := Lib.hid (show Below w.heap.size w w1 from (bW w _).trans (hb1.mono (by rw [World.size_alloc]; omega)))
  clear hb1
  go_upto_region 4 with (first | (refine wpList_alloc_cm rfl rfl ?_; intro Z hZ; have HZ := Lib.hid hZ; clear hZ) | (refine wpList_put_cm rfl (.tmp 7) (.tmp 26) rfl (f := 2) (fl := l) (t := 0) (tl := 0) (nt := nt) rfl rfl HZ.out ?_))
  obtain ⟨W, hW⟩ : ∃ W, W = w1.alloc (.cells (cmC 2 l 0 0 nt).toArray 39) := ⟨_, rfl⟩
  obtain ⟨b, hb⟩ : ∃ b, b = w1.heap.size := ⟨_, rfl⟩
  have H0 := Lib.hid (show B1 (cmC 2 l 0 0 nt) b w W by rw [hb, hW]; exact ⟨heap_alloc_new w1 _, HB1.out.alloc HB1.out.size _⟩)
  rw [← hW, ← hb]
  clear hW hb
  go_upto_region 5 with fail
  go_loopw [8] (fun nv wz => ∃ m : Nat, nv = .int .i64 (m : Int) ∧ Hid (1 ≤ m ∧ m ≤ 61 ∧ B1 (cmC 2 l 0 0 nt) b w wz)) (fun nv _ => 61 - (intOf nv).toNat)
  case atStart => exact ⟨1, rfl, Lib.hid ⟨by omega, by omega, H0.out⟩⟩
  case round =>
    obtain ⟨m, rfl, HI⟩ := hrel
    have hm := HI.out.2.1
    by_cases h60 : m ≤ 60
    case neg =>
      have d1 : decide ((m : Int) ≤ 60) = false := decide_eq_false (by omega)
      have d2 : decide (m ≤ 60) = false := decide_eq_false h60
      have d3 : (60 : Int) < (m : Int) := by omega
      have HB6 := Lib.hid HI.out.2.2.bel
      clear hm h60
      go_wp2_with fail
      go_at_call 11
      with_reducible refine (HA.out _).mono ?_
      rintro e w7 ⟨rfl, hb7⟩
      have HB7 := Lib.hid (HB6.out.trans (hb7.mono HB6.out.size))
      clear hb7
      go_wp2_with fail
      go_ret
      exact ⟨rfl, HB7.out⟩
    have d1 : decide ((m : Int) ≤ 60) = true := decide_eq_true (by omega)
    have d2 : decide (m ≤ 60) = true := decide_eq_true h60
    have HM := Lib.hid (show 1 ≤ m ∧ m ≤ 60 from ⟨HI.out.1, h60⟩)
    have e1 : IntKind.i64.wrap ((m : Int) + 1) = ((m + 1 : Nat) : Int) := by rw [IntWalk.i64_in _ (by omega)]; omega
    have HSM := Lib.hid (HS.out m)
    clear hm h60 HS
    obtain ⟨x, gx⟩ : ∃ x, ((m : Int) == 60) = x := ⟨_, rfl⟩
    have gx2 : (m == 60) = x := by rw [← gx, Bool.eq_iff_iff]; simp; omega
    rw [gx] at HSM
    go_wp2_with (refine wpList_load_row rfl 39 (.tmp 7) rfl b rfl 39 _ (0, 0) _ HI.out.2.2.one Try.underlying39 rfl size_cmd ?_)
    go_at_call 10
    with_reducible refine (HSM.out _).mono ?_
    rintro e w2 ⟨rfl, hb2⟩
    have H2 := Lib.hid (HI.out.2.2.stays hb2)
    clear hb2 HSM
    cases x <;> cases nt
    all_goals
      go_wp2_with fail
      refine ⟨⟨m + 1, rfl, Lib.hid ⟨by omega, by have := HM.out; omega, H2.out⟩⟩, ?_⟩
      have := HM.out
      simp [intOf]
      omega
set_option maxRecDepth 100000 in
set_option maxHeartbeats 8000000 in
theorem one_any (l k : Int) (nt : Bool) (w : World) : Calls Try.prog 7 #[.int .i64 l, .int .i64 k, .bool nt] w fun e w' => e = .returned (.bool true) ∧ Below w.heap.size w w' := by
  have HA := Lib.hid alive_is
  by_cases h1 : k < 0
  · have g1 : decide (k < 0) = true := decide_eq_true h1
    have HB6 := Lib.hid (Below.refl w.heap.size w)
    clear h1
    go_enter Try.func7, Try.ntmps7
    go_wp2_with fail
    go_at_call 11
    with_reducible refine (HA.out _).mono ?_
    rintro e w7 ⟨rfl, hb7⟩
    have HB7 := Lib.hid (HB6.out.trans (hb7.mono HB6.out.size))
    clear hb7
    go_wp2_with fail
    go_ret
    exact ⟨rfl, HB7.out⟩
  have g1 : decide (k < 0) = false := decide_eq_false h1
  by_cases h2 : 2 < k
  · have g2 : decide (2 < k) = true := decide_eq_true h2
    have HB6 := Lib.hid (Below.refl w.heap.size w)
    clear h1 h2
    go_enter Try.func7, Try.ntmps7
    go_wp2_with fail
    go_at_call 11
    with_reducible refine (HA.out _).mono ?_
    rintro e w7 ⟨rfl, hb7⟩
    have HB7 := Lib.hid (HB6.out.trans (hb7.mono HB6.out.size))
    clear hb7
    go_wp2_with fail
    go_ret
    exact ⟨rfl, HB7.out⟩
  rcases (show k = 0 ∨ k = 1 ∨ k = 2 by omega) with rfl | rfl | rfl
  · exact one_0 l nt w
  · exact one_1 l nt w
  · exact one_2 l nt w
end Go.Proofs.Ytaagadaamnolcaa

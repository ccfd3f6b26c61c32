/-
  TokenReads: it returns true and turns nothing that was there. No condition.
-/
import Derived.Test.YtkgpicalbpimdaaTkalv
import Derived.Test.YtkgpicalbpimdaaTkrn
import Derived.Test.YtkgpicalbpimdaaTkrl
namespace Go.Proofs.Ytkgpicalbpimdaa
open Go.RowKit Go.Deep

theorem linV_form (r : Option (List UInt8 × Nat)) : ∃ s n e, LinV r = .tuple #[.string s, .int .i64 n, .int .i64 e] := by
  cases r with
  | none => exact ⟨_, _, _, rfl⟩
  | some p => exact ⟨_, _, _, rfl⟩
set_option maxRecDepth 100000 in
set_option maxHeartbeats 2000000 in
theorem reads_walk (t : ByteArray) (i : Int) (hi1 : -9223372036854775808 ≤ i) (hi2 : i < 9223372036854775808) (w : World) : Calls Try.prog 4 #[.string t, .int .i64 i] w (Alv w) := by
  have HAL := Lib.hid fun (W : World) => alive_is W
  unfold Alv at HAL ⊢
  by_cases hz : t.size ≤ 300
  case neg =>
    have g : decide ((t.size : Int) > 300) = true := decide_eq_true (by omega)
    have gn : decide (300 < t.size) = true := decide_eq_true (by omega)
    clear hz
    go_enter Try.func4, Try.ntmps4
    go_wp2_with fail
    go_at_call 10
    refine (HAL.out _).mono ?_
    rintro e w1 ⟨rfl, hb⟩
    have HB := Lib.hid hb
    clear hb
    go_wp2_with fail
    go_ret
    exact ⟨rfl, HB.out⟩
  case pos =>
  have hz2 : t.size ≤ 1048576 := by omega
  have HNU := Lib.hid fun (W : World) => number_is t (by omega) i hi1 hi2 W
  have HRN := Lib.hid fun (W : World) => rnumber_is t hz2 i W
  have HWO := Lib.hid fun (W : World) => word_is t hz2 i W
  have HRW := Lib.hid fun (W : World) => rword_is t hz2 i W
  have HRE := Lib.hid fun (W : World) => rest_is t hz2 i W
  have HRR := Lib.hid fun (W : World) => rrest_is t hz2 i W
  have HLI := Lib.hid fun (W : World) => lines_is t hz2 i W
  have HRL := Lib.hid fun (W : World) => rlines_is t hz2 i W
  have HBL := Lib.hid fun (W : World) => blanks_is t (by omega) i W
  have HRB := Lib.hid fun (W : World) => rblanks_is t hz2 i W
  have g : decide ((t.size : Int) > 300) = false := decide_eq_false (by omega)
  have gn : decide (300 < t.size) = false := decide_eq_false (by omega)
  have gi : (t.size : Int) ≤ 300 := by omega
  unfold UpAns UpV at HWO HRW HRE HRR
  unfold LinAns at HLI HRL
  unfold NumV at HNU HRN
  obtain ⟨ls, ln, le, hl⟩ := linV_form (linG t.data.toList i)
  rw [hl] at HLI HRL
  obtain ⟨⟨nn, ni, nk⟩, hn⟩ : ∃ p, p = numF t.data.toList i := ⟨_, rfl⟩
  rw [← hn] at HNU HRN
  obtain ⟨⟨ws, wi⟩, hw⟩ : ∃ p, p = upF endW t.data.toList i := ⟨_, rfl⟩
  rw [← hw] at HWO HRW
  obtain ⟨⟨rs, ri⟩, hr⟩ : ∃ p, p = upF endR t.data.toList i := ⟨_, rfl⟩
  rw [← hr] at HRE HRR
  obtain ⟨bl, hbl⟩ : ∃ p, p = blanksF t.data.toList i := ⟨_, rfl⟩
  rw [← hbl] at HBL HRB
  simp only [] at HNU HRN HWO HRW HRE HRR
  generalize txt ws = wS at HWO HRW
  generalize txt rs = rS at HRE HRR
  have HB0 := Lib.hid (Below.refl w.heap.size w)
  clear hz hz2 hl hn hw hr hbl hi1 hi2
  go_enter Try.func4, Try.ntmps4
  go_wp2_with fail
  go_at_call 13
  refine (HNU.out _).mono ?_
  rintro e wa ⟨rfl, rfl⟩
  go_wp2_with fail
  go_at_call 14
  refine (HRN.out _).mono ?_
  rintro e wb ⟨rfl, rfl⟩
  go_wp2_with fail
  go_at_call 15
  refine (HWO.out _).mono ?_
  rintro e w1 ⟨rfl, hb⟩
  have HB1 := Lib.hid (HB0.out.trans (hb.mono HB0.out.size))
  clear hb
  go_wp2_with fail
  go_at_call 16
  refine (HRW.out _).mono ?_
  rintro e w2 ⟨rfl, hb⟩
  have HB2 := Lib.hid (HB1.out.trans (hb.mono HB1.out.size))
  clear hb
  go_wp2_with fail
  go_at_call 17
  refine (HRE.out _).mono ?_
  rintro e w3 ⟨rfl, hb⟩
  have HB3 := Lib.hid (HB2.out.trans (hb.mono HB2.out.size))
  clear hb
  go_wp2_with fail
  go_at_call 18
  refine (HRR.out _).mono ?_
  rintro e w4 ⟨rfl, hb⟩
  have HB4 := Lib.hid (HB3.out.trans (hb.mono HB3.out.size))
  clear hb
  go_wp2_with fail
  go_at_call 19
  refine (HLI.out _).mono ?_
  rintro e w5 ⟨rfl, hb⟩
  have HB5 := Lib.hid (HB4.out.trans (hb.mono HB4.out.size))
  clear hb
  go_wp2_with fail
  go_at_call 20
  refine (HRL.out _).mono ?_
  rintro e w6 ⟨rfl, hb⟩
  have HB6 := Lib.hid (HB5.out.trans (hb.mono HB5.out.size))
  clear hb
  go_wp2_with fail
  go_at_call 10
  refine (HAL.out _).mono ?_
  rintro e w7 ⟨rfl, hb⟩
  have HB7 := Lib.hid (HB6.out.trans (hb.mono HB6.out.size))
  clear hb
  go_wp2_with fail
  go_at_call 21
  refine (HBL.out _).mono ?_
  rintro e wc ⟨rfl, rfl⟩
  go_wp2_with fail
  go_at_call 22
  refine (HRB.out _).mono ?_
  rintro e wd ⟨rfl, rfl⟩
  go_wp2_with fail
  go_ret
  exact ⟨by simp, HB7.out⟩
end Go.Proofs.Ytkgpicalbpimdaa

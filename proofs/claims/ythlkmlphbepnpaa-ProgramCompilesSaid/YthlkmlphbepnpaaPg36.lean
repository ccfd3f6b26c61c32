/-
  ProgramCompiles, walked: the program's answers and the document's are one. No condition.
-/
import Derived.Test.YthlkmlphbepnpaaPg35
import Derived.Test.YthlkmlphbepnpaaPg19
namespace Go.Proofs.Ythlkmlphbepnpaa
open Go.RowKit Go.Deep Go.Sort

theorem comp_form {l : List CM} {w w' : World} {e : Ending} (h : CompAns l w e w') : ∃ (A : Option Addr) (n c re im : Nat) (x : Int), e = .returned (.tuple #[.slice A n c, .complex .f64 re im, .int .i64 x]) := by
  rcases h.2 with ⟨_, rfl⟩ | ⟨_, i, c, _, _, rfl⟩ | ⟨_, _, i, c, _, _, rfl⟩ | ⟨_, J, g, _, _, _, rfl⟩
  · exact ⟨_, _, _, _, _, _, rfl⟩
  · exact ⟨_, _, _, _, _, _, rfl⟩
  · exact ⟨_, _, _, _, _, _, rfl⟩
  · exact ⟨_, _, _, _, _, _, rfl⟩
theorem below_drew {B : Nat} {w W : World} (h : RowKit.Below B w W) (n : Nat) : RowKit.Below B w (W.drewN n) := ⟨h.os, h.tape, h.output, h.size, h.block⟩
set_option maxRecDepth 100000 in
set_option maxHeartbeats 16000000 in
theorem compiles_is {l : List BM} {cl : Nat} {A : Option Addr} {w : World} (hr : RawAt w A (bmV l)) :
    Calls Try.prog 3 #[.slice A l.length cl] w (Alv w) := by
  have HC := Lib.hid (commands_is (cl := cl) hr)
  have HA := Lib.hid alive_is
  clear hr
  unfold Alv at *
  go_enter Try.func3, Try.ntmps3
  go_wp2_with fail
  go_at_call 8
  with_reducible refine HC.out.mono ?_
  rintro e w1 ⟨hb1, h⟩
  have HB1 := Lib.hid hb1
  clear hb1
  rcases h with rfl | ⟨hl, hsm, v, hown, rfl⟩
  · go_wp2_with fail
    go_at_call 9
    with_reducible refine (HA.out w1).mono ?_
    rintro e w3 ⟨rfl, hb3⟩
    have HB3 := Lib.hid (HB1.out.trans (hb3.mono HB1.out.size))
    clear hb3
    go_wp2_with fail
    go_ret
    exact ⟨rfl, HB3.out⟩
  have hqp : ∀ c ∈ l.map BM.cm, EqP c := eqp_briefs
  have htx : ∀ c ∈ l.map BM.cm, c.text.size ≤ 1048576 := fun c hc => by
    obtain ⟨b, hb, rfl⟩ := List.mem_map.1 hc
    exact Nat.le_trans (hsm b hb).1 (by omega)
  obtain ⟨cs, hcs⟩ : ∃ cs, cs = l.map BM.cm := ⟨_, rfl⟩
  have HN := Lib.hid (show cs.length ≤ 220 by rw [hcs, List.length_map]; exact hl)
  rw [← hcs] at hown hqp htx
  have HQP := Lib.hid hqp
  have HTX := Lib.hid htx
  obtain ⟨A2, c2, rfl, hraw⟩ := hown.raw
  have HR := Lib.hid hraw
  clear hl hsm hcs hown hraw hqp htx
  go_upto_region 4 with fail
  refine wp_region_lit ?_
  refine wpList_lit_nilC rfl rfl ?_
  intro v0 w0 ho0 hb0
  have HO0 := Lib.hid ho0
  have HB0 := Lib.hid hb0
  have HR0 := Lib.hid (HR.out.below hb0)
  clear ho0 hb0
  have HNN := Lib.hid (show ([] : List CM).length + cs.length ≤ 1073741824 by
    have h1 := HN.out
    have h2 : ([] : List CM).length = 0 := rfl
    omega)
  go_wp2_with (refine wpList_append_cmd 27 cs HO0.out HR0.out rfl rfl rfl HNN.out HB0.out.size ?_)
  intro v4 w4 hown4 ht4 hk4
  rw [List.nil_append] at hown4
  have HB4 := Lib.hid (show Below w1.heap.size w1 w4 from HB0.out.trans (ht4.below HB0.out.size fun k hk => (World.ownsRow.lt HO0.out k hk).1))
  obtain ⟨A4, c4, rfl, hraw4⟩ := hown4.raw
  have HR4 := Lib.hid hraw4
  have HCP := Lib.hid (compile_is (cl := c4) hraw4 HTX.out)
  clear hown4 ht4 hk4 hraw4 HO0 HB0 HR0
  go_wp2_with fail
  go_at_call 10
  with_reducible refine HCP.out.mono ?_
  intro e5 w5 h5
  obtain ⟨A5, n5, c5, re, im, x, rfl⟩ := comp_form h5
  have H5 := Lib.hid h5
  have HB5 := Lib.hid (HB4.out.trans (h5.1.mono HB4.out.size))
  have HD := Lib.hid (doc_is (cl := c2) (HR.out.below HB5.out))
  clear h5 HCP
  go_wp2_with fail
  go_at_call 11
  with_reducible refine HD.out.mono ?_
  intro e6 w6 h6
  obtain ⟨I, A5', A6, c5', c6, re', im', x', he5, rfl, hr5, hr6, hI, hmem, hpl⟩ := comp_doc H5.out h6
  simp only [Ending.returned.injEq, Value.tuple.injEq, Array.mk.injEq, List.cons.injEq, Value.slice.injEq, Value.complex.injEq, Value.int.injEq, true_and, and_true] at he5
  obtain ⟨⟨z1, z2, z3⟩, ⟨z4, z5⟩, z6⟩ := he5
  subst z1 z2 z3 z4 z5 z6
  have HEC := Lib.hid (show EqC re im from by
    rcases hpl with ⟨rfl, rfl⟩ | ⟨c, hc, rfl, rfl⟩
    · exact eqc_zero
    · exact HQP.out c hc)
  have HB6 := Lib.hid (HB5.out.trans (h6.1.mono HB5.out.size))
  have HSI := Lib.hid (same_ins (ca := c5) (cb := c6) (hr5.below h6.1) hr6 (by omega) (fun y hy => HQP.out _ (hmem y hy)))
  have HB46 := Lib.hid (H5.out.1.trans (h6.1.mono H5.out.1.size))
  unfold SAns at HSI
  clear h6 hr5 hr6 hI hmem hpl HD H5
  go_wp2_with fail
  go_at_call 12
  with_reducible refine HSI.out.mono ?_
  rintro e w7 ⟨rfl, hb7⟩
  have HB7 := Lib.hid (HB6.out.trans (hb7.mono HB6.out.size))
  have HB47 := Lib.hid (HB46.out.trans (hb7.mono HB46.out.size))
  have HSA := Lib.hid (same_all (ca := c4) (cb := c2) (HR4.out.below HB47.out) (HR.out.below HB7.out) (by have := HN.out; omega) HQP.out)
  unfold SAns at HSA
  clear hb7 HSI HB46 HB6
  go_wp2_with fail
  go_at_call 13
  with_reducible refine HSA.out.mono ?_
  rintro e w8 ⟨rfl, hb8⟩
  have HB8 := Lib.hid (HB7.out.trans (hb8.mono HB7.out.size))
  have HB48 := Lib.hid (HB47.out.trans (hb8.mono HB47.out.size))
  have HFI := Lib.hid (files_are (cl := c4) (HR4.out.below HB48.out) (by have := HN.out; omega))
  clear hb8 HSA HB47 HB7
  go_wp2_with fail
  go_at_call 14
  with_reducible refine HFI.out.mono ?_
  rintro e w9 ⟨hb9, A9, c9, F, rfl, hfr, hpw, hfl, hmem⟩
  have HB9 := Lib.hid (HB8.out.trans (hb9.mono HB8.out.size))
  have HB49 := Lib.hid (HB48.out.trans (hb9.mono HB48.out.size))
  have HFR := Lib.hid hfr
  have HPW := Lib.hid hpw
  have HME := Lib.hid hmem
  have HFL := Lib.hid hfl
  have HFD := Lib.hid (filesd_is (cl := c2) (HR.out.below HB9.out) (by have := HN.out; omega))
  clear hb9 hfr hpw hfl hmem HFI HB48 HB8
  go_wp2_with fail
  go_at_call 15
  with_reducible refine HFD.out.mono ?_
  rintro e w10 ⟨hb10, A10, c10, G, rfl, hfr2, hpw2, _, hmem2⟩
  obtain rfl : F = G := up_one HPW.out hpw2 fun y => (HME.out y).trans (hmem2 y).symm
  have HB10 := Lib.hid (HB9.out.trans (hb10.mono HB9.out.size))
  have HB410 := Lib.hid (HB49.out.trans (hb10.mono HB49.out.size))
  have HF1 := Lib.hid (HFR.out.below hb10)
  have HF2 := Lib.hid hfr2
  have HDP := Lib.hid (deep_is (cl := c4) (HR4.out.below HB410.out) (by have := HN.out; omega))
  obtain ⟨q, hq⟩ : ∃ q, q = F.length := ⟨_, rfl⟩
  have HQ := Lib.hid (show q = F.length ∧ q ≤ 220 from ⟨hq, by have h1 := HFL.out; have h2 := HN.out; omega⟩)
  rw [← hq]
  have gq : ((q : Int) != (q : Int)) = false := by simp
  clear hb10 hfr2 hpw2 hmem2 hq HFD HB49 HB9 HPW HME HFR HFL
  go_wp2_with fail
  go_at_call 16
  with_reducible refine HDP.out.mono ?_
  rintro e w11 ⟨rfl, hb11⟩
  have HB11 := Lib.hid (HB10.out.trans (hb11.mono HB10.out.size))
  have HF3 := Lib.hid (And.intro (HF1.out.below hb11) (HF2.out.below hb11))
  have HDD := Lib.hid (deepd_is (cl := c2) (HR.out.below HB11.out) (by have := HN.out; omega))
  clear hb11 HDP HF1 HF2 HB410 HB10
  go_wp2_with fail
  go_at_call 17
  with_reducible refine HDD.out.mono ?_
  rintro e w12 ⟨rfl, rfl⟩
  clear HDD
  obtain ⟨dp, hdp⟩ : ∃ dp : Int, dp = ((dpF (cN cs) cs.length).2 : Int) := ⟨_, rfl⟩
  rw [← hdp]
  have gdp : (dp != dp) = false := by simp
  clear hdp
  go_wp2_with fail
  go_loopw [16] (fun iv wz => ∃ i : Nat, iv = .int .i64 (i : Int) ∧ Hid (i ≤ q ∧ RowKit.Below w12.heap.size w12 wz)) (fun iv _ => q + 1 - (intOf iv).toNat)
  case atStart => exact ⟨0, rfl, Lib.hid ⟨Nat.zero_le _, RowKit.Below.refl _ _⟩⟩
  case round =>
    obtain ⟨i, rfl, HI⟩ := hrel
    have hle := HI.out.1
    have hq2 := HQ.out.2
    have HB12 := Lib.hid (HB11.out.trans (HI.out.2.mono HB11.out.size))
    by_cases hi : i < q
    case neg =>
      have hd : decide ((i : Int) < (q : Int)) = false := decide_eq_false (by omega)
      have hdn : decide (i < q) = false := decide_eq_false hi
      have hll : (q : Int) ≤ (i : Int) := by omega
      have hec : ∀ W : World, (binOp .eql 28 (.complex .f64 re im) (.complex .f64 re im)).run Try.prog W = .ok (.bool true) W := HEC.out
      have hex : (x == x) = true := by simp
      clear hle hi hq2
      go_wp2_with fail
      go_at_call 9
      with_reducible refine (HA.out _).mono ?_
      rintro e w13 ⟨rfl, hb13⟩
      have HB13 := Lib.hid (HB12.out.trans (hb13.mono HB12.out.size))
      clear hb13
      go_wp2_with fail
      go_ret
      exact ⟨rfl, HB1.out.trans (HB13.out.mono HB1.out.size)⟩
    obtain ⟨y, hy⟩ : ∃ y, F[i]? = some y := ⟨F[i]'(by rw [← HQ.out.1]; exact hi), by simp⟩
    obtain ⟨g, o, rfl, k1⟩ := (HF3.out.1.below HI.out.2).cell (i := i) (v := .string (txt y)) (by simp [sV, hy])
    obtain ⟨g', o', rfl, k2⟩ := (HF3.out.2.below HI.out.2).cell (i := i) (v := .string (txt y)) (by simp [sV, hy])
    have hli : (i : Int) < (q : Int) := by omega
    have hd : decide ((i : Int) < (q : Int)) = true := decide_eq_true hli
    have hdn : decide (i < q) = true := decide_eq_true hi
    have hadd : IntKind.i64.wrap ((i : Int) + 1) = ((i + 1 : Nat) : Int) := by rw [IntWalk.i64_in _ (by omega)]; omega
    obtain ⟨i1, hi1⟩ : ∃ i1, i1 = i + 1 := ⟨_, rfl⟩
    rw [← hi1] at hadd
    have HI1 := Lib.hid (And.intro hi1 hi)
    clear hle hi hq2 hi1 hy
    go_upto_region 16 with fail
    go_quiet (fail)
    go_wp2_with fail
    go_roundw
    case rel => exact ⟨i1, rfl, Lib.hid ⟨by have := HI1.out; omega, below_drew HI.out.2 _⟩⟩
    case measure => have := HI1.out; simp [intOf]; omega
end Go.Proofs.Ythlkmlphbepnpaa

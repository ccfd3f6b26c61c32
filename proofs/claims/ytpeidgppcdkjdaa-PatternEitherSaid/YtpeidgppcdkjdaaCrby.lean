/-
  The document's Bracket; ClassBrackets. Condition: a text, that begins with ^.
-/
import Derived.Test.YtpeidgppcdkjdaaCrb22
namespace Go.Proofs.Ytpeidgppcdkjdaa
open Go.RowKit

set_option maxRecDepth 100000 in
set_option maxHeartbeats 64000000 in
theorem rbr_yes (s : ByteArray) (hz : s.size ≤ 2147483648) {c : UInt8} {q : List UInt8} (hl : s.data.toList = c :: q) (hc : c = 94) (r : Option ((Nat → Nat) × Nat)) (hr : BrkP s 1 noS r) (w : World) :
    Calls Try.prog 50 #[.string s] w fun e w' => e = .returned (brkV true r) ∧ Below w.heap.size w w' := by
  have HZ := Lib.hid hz
  have HR := Lib.hid hr
  obtain ⟨hlt, h0⟩ := at_drop (s := s) (i := 0) hl
  have HN0 := Lib.hid (show 1 ≤ s.size from hlt)
  have h1 : (0 : Int) < (s.size : Int) := by omega
  have e94 : ((c.toNat : Int) == 94) = true := tst c 94 94 rfl _ (by simp [hc])
  clear hl hc hlt
  clear hz hr
  go_enter Try.func50, Try.ntmps50
  go_wp2_with fail
  go_loopw [6, 8, 9, 10, 11, 12, 13] (fun iv fv _ _ _ _ _ wr => RB s r w iv fv wr) (fun iv _ _ _ _ _ _ _ => s.size - (intOf iv).toNat)
  case atStart => exact ⟨1, noS, true, rfl, rfl, OkS.no, HN0.out, brk_start w, .inl ⟨HR.out, .inl rfl⟩⟩
  case round =>
    obtain ⟨n, S, f, rfl, rfl, hS, hn, hW, hcase⟩ := hrel
    have HS := Lib.hid hS
    have HN := Lib.hid hn
    have HW := Lib.hid hW
    have hni : (n : Int) ≤ (s.size : Int) := Int.ofNat_le.2 hn
    have HWR := Lib.hid (wraps (n := n) (Nat.le_trans hn HZ.out))
    have HNA := Lib.hid fun (W : World) => rnm_is s n HZ.out hn W
    have HSG := Lib.hid fun (W : World) => single_is s n f (Nat.le_trans HZ.out (by decide)) W
    clear hS hn hW
    rcases hcase with ⟨hP, hf⟩ | ⟨rfl, hr2, q, hq⟩
    · have HP := Lib.hid hP
      rw [sgl_of hf] at HSG
      clear hP
      cases f with
      | true =>
        clear hf
        go_wp2_with fail
        go_at_call 61
        refine (HNA.out _).mono ?_
        rintro e w1 ⟨A, m, b, rfl, hw1, hcs⟩
        have hWa := HW.out.below hw1
        have HW1 := Lib.hid (hWa.below ((Below.refl _ w1).alloc (Nat.le_refl _) (.cells #[.int .u64 (A 0), .int .u64 (A 1), .int .u64 (A 2), .int .u64 (A 3)] 26)))
        have l0 : w.heap.size < w1.heap.size := Nat.lt_of_lt_of_le (Nat.lt_of_lt_of_le (by omega) HW.out.2.2.2) hw1.size
        have l1 : w.heap.size + 1 < w1.heap.size := Nat.lt_of_lt_of_le (Nat.lt_of_lt_of_le (by omega) HW.out.2.2.2) hw1.size
        have HERB := Lib.hid ((below_st4 hWa.2.2.1 (Nat.le_refl _) noS).alloc (by rw [size_st4]; exact hWa.2.2.1.size) (.cells #[.int .u64 (A 0), .int .u64 (A 1), .int .u64 (A 2), .int .u64 (A 3)] 26))
        obtain ⟨⟨⟨a0, a1, a2, a3⟩, b0, b1, b2, b3⟩, ⟨⟨c0, c1, c2, c3⟩, d0, d1, d2, d3⟩, hBx, hsx⟩ := hWa
        clear hw1
        rcases hcs with ⟨rfl, hA, hpx, rfl, rfl, hk⟩ | ⟨rfl, hno⟩
        · skip
          have HBO := Lib.hid fun (W : World) => rboth_is S (itm (s.data.toList.drop n)).1 HS.out hA W
          obtain ⟨x, hx⟩ : ∃ x, x = itm (s.data.toList.drop n) := ⟨_, rfl⟩
          rw [← hx] at HBO hA hk HW1
          rw [← hx]
          obtain ⟨A, k⟩ := x
          dsimp only at HBO hA hk HW1 ⊢
          have HX := Lib.hid (And.intro hx.symm (And.intro hk hA))
          clear hx hk hA hpx
          unfold setV at HBO ⊢
          go_wp2_with fail
          skip
          go_at_call 62
          refine (HBO.out _).mono ?_
          rintro e w2 ⟨rfl, hw2⟩
          have hW2 := HW1.out.below hw2
          have HW3 := Lib.hid (hW2.store (bothS S A))
          clear a0 a1 a2 a3 b0 b1 b2 b3 c0 c1 c2 c3 d0 d1 d2 d3 hBx hsx
          obtain ⟨⟨⟨a0, a1, a2, a3⟩, b0, b1, b2, b3⟩, ⟨⟨c0, c1, c2, c3⟩, d0, d1, d2, d3⟩, hBx, hsx⟩ := hW2
          clear hw2
          go_wp2_with fail
          have h := RB.step HP.out HX.out.1 HX.out.2.1 HS.out HX.out.2.2 HW3.out rfl
          exact ⟨h.1, h.2⟩
        · skip
          cases hb : byteOf (s.data.toList.drop n) with
          | false =>
            rw [hb] at HSG
            have HNO := Lib.hid (HP.out.none (itm_zero hb hno))
            clear hno hb
            unfold setV
            go_wp2_with fail
            go_at_call 63
            refine (HSG.out _).mono ?_
            rintro e w2 ⟨rfl, rfl⟩
            have HRN := Lib.hid (show brkV true r = .tuple #[setV noS, .int .i64 0, .int .i64 81] by rw [HNO.out]; rfl)
            go_wp2_with fail
            refine bodyPost_ret (v := .tuple #[setV noS, .int .i64 0, .int .i64 81]) (by simp [results, Try.results50, go_sem, setV, noS, a0, a1, a2, a3, l0]) rfl ⟨by rw [HRN.out], ?_⟩
            first | exact HERB.out | exact HERB.out.drew
          | true =>
            rw [hb] at HSG
            clear hno
            match hl : s.data.toList.drop n with
            | [] => rw [hl] at hb; cases hb
            | c :: q =>
              obtain ⟨hlt, h0⟩ := at_drop hl
              have h1 : (n : Int) < (s.size : Int) := Int.ofNat_lt.2 hlt
              match q, hl with
              | [], hl =>
                have h2 : (s.size : Int) ≤ (n : Int) + 2 := by have := drop_end (drop_next hl); omega
                have hwk2 : wrap64 ((n : Int) + 2) = (n : Int) + 2 := HWR.out 2 (by decide)
                have HIT := Lib.hid (show itm (s.data.toList.drop n) = (withS noS c.toNat c.toNat, 1) by rw [hl] at hb ⊢; rw [itm_plain hb]; exact itmP_one hb (fun _ _ h => by cases h))
                have HWT := Lib.hid fun (W : World) => rwith_is S c.toNat c.toNat HS.out c.toNat_lt c.toNat_lt W
                have HTO := Lib.hid (set_with S HS.out c.toNat c.toNat)
                generalize hT : withS S c.toNat c.toNat = T at HWT HTO
                clear hT
                unfold setV
                have hwk1 : wrap64 ((n : Int) + 1) = (n : Int) + 1 := HWR.out 1 (by decide)
                clear hl hb 
                go_wp2_with fail
                go_at_call 63
                refine (HSG.out _).mono ?_
                rintro e w2 ⟨rfl, rfl⟩
                go_upto_region 22 with fail
                refine r22 s ⟨by omega, h0 (by omega)⟩ HWT.out HW1.out fun w4 hw4 => ?_
                have HW4 := Lib.hid hw4
                unfold setV
                clear hw4
                go_wp2_with fail
                rw [hwk1]
                exact (fun h => ⟨h.1, h.2⟩) (RB.step HP.out HIT.out (by decide) HS.out (OkS.no.withS _ _) HW4.out HTO.out)
              | [d], hl =>
                have h2 : (s.size : Int) ≤ (n : Int) + 2 := by have := drop_end (drop_next (drop_next hl)); omega
                have hwk2 : wrap64 ((n : Int) + 2) = (n : Int) + 2 := HWR.out 2 (by decide)
                have HIT := Lib.hid (show itm (s.data.toList.drop n) = (withS noS c.toNat c.toNat, 1) by rw [hl] at hb ⊢; rw [itm_plain hb]; exact itmP_one hb (fun _ _ h => by injection h with _ h; cases h))
                have HWT := Lib.hid fun (W : World) => rwith_is S c.toNat c.toNat HS.out c.toNat_lt c.toNat_lt W
                have HTO := Lib.hid (set_with S HS.out c.toNat c.toNat)
                generalize hT : withS S c.toNat c.toNat = T at HWT HTO
                clear hT
                unfold setV
                have hwk1 : wrap64 ((n : Int) + 1) = (n : Int) + 1 := HWR.out 1 (by decide)
                clear hl hb 
                go_wp2_with fail
                go_at_call 63
                refine (HSG.out _).mono ?_
                rintro e w2 ⟨rfl, rfl⟩
                go_upto_region 22 with fail
                refine r22 s ⟨by omega, h0 (by omega)⟩ HWT.out HW1.out fun w4 hw4 => ?_
                have HW4 := Lib.hid hw4
                unfold setV
                clear hw4
                go_wp2_with fail
                rw [hwk1]
                exact (fun h => ⟨h.1, h.2⟩) (RB.step HP.out HIT.out (by decide) HS.out (OkS.no.withS _ _) HW4.out HTO.out)
              | d :: e :: q2, hl =>
                obtain ⟨hlt1, p1⟩ := at_drop (drop_next hl)
                obtain ⟨hlt2, p2⟩ := at_drop (drop_next (drop_next hl))
                have h2 : (n : Int) + 2 < (s.size : Int) := by omega
                have h3 : (n : Int) + 1 < (s.size : Int) := by omega
                by_cases hd : d = 45
                · by_cases he : e = 93
                  · have e1 : ((d.toNat : Int) == 45) = true := tst d 45 45 rfl _ (by simp [hd])
                    have e20 : ((e.toNat : Int) == 93) = true := tst e 93 93 rfl _ (by simp [he])
                    have e2 : ((e.toNat : Int) != 93) = false := by rw [bne, e20]; rfl
                    have hwk2 : wrap64 ((n : Int) + 2) = (n : Int) + 2 := HWR.out 2 (by decide)
                    have HIT := Lib.hid (show itm (s.data.toList.drop n) = (withS noS c.toNat c.toNat, 1) by rw [hl] at hb ⊢; rw [itm_plain hb]; exact itmP_one hb (fun e' q' h => by injection h with _ h; injection h with h _; rw [← h]; exact he))
                    have HWT := Lib.hid fun (W : World) => rwith_is S c.toNat c.toNat HS.out c.toNat_lt c.toNat_lt W
                    have HTO := Lib.hid (set_with S HS.out c.toNat c.toNat)
                    generalize hT : withS S c.toNat c.toNat = T at HWT HTO
                    clear hT
                    unfold setV
                    have hwk1 : wrap64 ((n : Int) + 1) = (n : Int) + 1 := HWR.out 1 (by decide)
                    clear hl hb hd he
                    go_wp2_with fail
                    go_at_call 63
                    refine (HSG.out _).mono ?_
                    rintro e w2 ⟨rfl, rfl⟩
                    go_upto_region 22 with fail
                    refine r22 s ⟨by omega, h0 (by omega)⟩ HWT.out HW1.out fun w4 hw4 => ?_
                    have HW4 := Lib.hid hw4
                    unfold setV
                    clear hw4
                    go_wp2_with fail
                    rw [hwk1]
                    exact (fun h => ⟨h.1, h.2⟩) (RB.step HP.out HIT.out (by decide) HS.out (OkS.no.withS _ _) HW4.out HTO.out)
                  · subst hd
                    have hb' := hb
                    rw [hl] at hb'
                    have HI2 := Lib.hid (show itm (s.data.toList.drop n) = if byteOf (e :: q2) = true ∧ c.toNat ≤ e.toNat then (withS noS c.toNat e.toNat, 3) else (noS, 0) by rw [hl, itm_plain hb', itmP_two hb' he])
                    have HS2 := Lib.hid fun (W : World) => single_is s (n + 2) false (Nat.le_trans HZ.out (by decide)) W
                    rw [drop_next (drop_next hl), sgl_of (.inr fun q' hh => he (by injection hh))] at HS2
                    rw [show ((n + 2 : Nat) : Int) = (n : Int) + 2 from rfl] at HS2
                    have hwk1 : wrap64 ((n : Int) + 1) = (n : Int) + 1 := HWR.out 1 (by decide)
                    have hwk2 : wrap64 ((n : Int) + 2) = (n : Int) + 2 := HWR.out 2 (by decide)
                    have hwk3 : wrap64 ((n : Int) + 3) = (n : Int) + 3 := HWR.out 3 (by decide)
                    have e1 : ((45 : Int) == 45) = true := rfl
                    have e20 : ((e.toNat : Int) == 93) = false := tst e 93 93 rfl _ (by simp [he])
                    have e2 : ((e.toNat : Int) != 93) = true := by rw [bne, e20]; rfl
                    clear hl hb hb' he
                    cases hb2 : byteOf (e :: q2) with
                    | false =>
                      rw [hb2] at HS2
                      have HNO := Lib.hid (HP.out.none (by rw [HI2.out, if_neg fun h => by rw [hb2] at h; exact Bool.false_ne_true h.1]))
                      clear hb2
                      unfold setV
                      go_wp2_with fail
                      go_at_call 63
                      refine (HSG.out _).mono ?_
                      rintro e w2 ⟨rfl, rfl⟩
                      go_wp2_with fail
                      go_at_call 63
                      refine (HS2.out _).mono ?_
                      rintro e' w2 ⟨rfl, rfl⟩
                      go_upto_region 18 with fail
                      go_region
                      have HRN := Lib.hid (show brkV true r = .tuple #[setV noS, .int .i64 0, .int .i64 81] by rw [HNO.out]; rfl)
                      go_wp2_with fail
                      refine bodyPost_ret (v := .tuple #[setV noS, .int .i64 0, .int .i64 81]) (by simp [results, Try.results50, go_sem, setV, noS, a0, a1, a2, a3, l0]) rfl ⟨by rw [HRN.out], ?_⟩
                      first | exact HERB.out | exact HERB.out.drew
                    | true =>
                      rw [hb2] at HS2
                      by_cases hce : c.toNat ≤ e.toNat
                      · have hcei : (c.toNat : Int) ≤ (e.toNat : Int) := Int.ofNat_le.2 hce
                        have hcen : ¬ (e.toNat : Int) < (c.toNat : Int) := by omega
                        have hced : decide (e.toNat < c.toNat) = false := decide_eq_false (by omega)
                        have HIT := Lib.hid (show itm (s.data.toList.drop n) = (withS noS c.toNat e.toNat, 3) by rw [HI2.out, if_pos ⟨hb2, hce⟩])
                        have HWT := Lib.hid fun (W : World) => rwith_is S c.toNat e.toNat HS.out c.toNat_lt e.toNat_lt W
                        have HTO := Lib.hid (set_with S HS.out c.toNat e.toNat)
                        generalize hT : withS S c.toNat e.toNat = T at HWT HTO
                        clear hT hb2 hce
                        unfold setV
                        go_wp2_with fail
                        go_at_call 63
                        refine (HSG.out _).mono ?_
                        rintro e w2 ⟨rfl, rfl⟩
                        go_wp2_with fail
                        go_at_call 63
                        refine (HS2.out _).mono ?_
                        rintro e' w2 ⟨rfl, rfl⟩
                        go_upto_region 18 with fail
                        go_region
                        go_upto_region 20 with fail
                        refine r20 s ⟨by omega, h0 (by omega)⟩ ⟨by omega, p2 (by omega)⟩ HZ.out HWT.out HW1.out.drew fun w4 hw4 => ?_
                        have HW4 := Lib.hid hw4
                        unfold setV
                        clear hw4
                        go_wp2_with fail
                        rw [hwk3]
                        exact (fun h => ⟨h.1, h.2⟩) (RB.step HP.out HIT.out (by decide) HS.out (OkS.no.withS _ _) HW4.out HTO.out)
                      · have hcei : (e.toNat : Int) < (c.toNat : Int) := by omega
                        have hced : decide (e.toNat < c.toNat) = true := decide_eq_true (by omega)
                        have HNO := Lib.hid (HP.out.none (by rw [HI2.out, if_neg fun h => hce h.2]))
                        clear hb2 hce
                        unfold setV
                        go_wp2_with fail
                        go_at_call 63
                        refine (HSG.out _).mono ?_
                        rintro e w2 ⟨rfl, rfl⟩
                        go_wp2_with fail
                        go_at_call 63
                        refine (HS2.out _).mono ?_
                        rintro e' w2 ⟨rfl, rfl⟩
                        go_upto_region 18 with fail
                        go_region
                        have HRN := Lib.hid (show brkV true r = .tuple #[setV noS, .int .i64 0, .int .i64 81] by rw [HNO.out]; rfl)
                        go_wp2_with fail
                        refine bodyPost_ret (v := .tuple #[setV noS, .int .i64 0, .int .i64 81]) (by simp [results, Try.results50, go_sem, setV, noS, a0, a1, a2, a3, l0]) rfl ⟨by rw [HRN.out], ?_⟩
                        first | exact HERB.out | exact HERB.out.drew
                · have e1 : ((d.toNat : Int) == 45) = false := tst d 45 45 rfl _ (by simp [hd])
                  have hwk2 : wrap64 ((n : Int) + 2) = (n : Int) + 2 := HWR.out 2 (by decide)
                  have HIT := Lib.hid (show itm (s.data.toList.drop n) = (withS noS c.toNat c.toNat, 1) by rw [hl] at hb ⊢; rw [itm_plain hb]; exact itmP_one hb (fun e' q' h => by injection h with h _; exact absurd h hd))
                  have HWT := Lib.hid fun (W : World) => rwith_is S c.toNat c.toNat HS.out c.toNat_lt c.toNat_lt W
                  have HTO := Lib.hid (set_with S HS.out c.toNat c.toNat)
                  generalize hT : withS S c.toNat c.toNat = T at HWT HTO
                  clear hT
                  unfold setV
                  have hwk1 : wrap64 ((n : Int) + 1) = (n : Int) + 1 := HWR.out 1 (by decide)
                  clear hl hb hd
                  go_wp2_with fail
                  go_at_call 63
                  refine (HSG.out _).mono ?_
                  rintro e w2 ⟨rfl, rfl⟩
                  go_upto_region 22 with fail
                  refine r22 s ⟨by omega, h0 (by omega)⟩ HWT.out HW1.out fun w4 hw4 => ?_
                  have HW4 := Lib.hid hw4
                  unfold setV
                  clear hw4
                  go_wp2_with fail
                  rw [hwk1]
                  exact (fun h => ⟨h.1, h.2⟩) (RB.step HP.out HIT.out (by decide) HS.out (OkS.no.withS _ _) HW4.out HTO.out)
      | false =>
        have hf2 : ∀ q, s.data.toList.drop n ≠ 93 :: q := hf.resolve_left Bool.false_ne_true
        match hl : s.data.toList.drop n with
        | [] =>
          have h1 : (s.size : Int) ≤ (n : Int) := Int.ofNat_le.2 (drop_end hl)
          rw [hl] at HSG
          have HSG2 := Lib.hid fun (W : World) => (show Calls Try.prog 63 #[.string s, .int .i64 (n : Int), .bool false] W fun e w' => e = .returned (.bool false) ∧ w' = W from HSG.out W)
          clear HSG hf hf2
          have HSG := HSG2
          clear HSG2
          go_wp2_with fail
          go_at_call 61
          refine (HNA.out _).mono ?_
          rintro e w1 ⟨A, m, b, rfl, hw1, hcs⟩
          have hWa := HW.out.below hw1
          have HW1 := Lib.hid (hWa.below ((Below.refl _ w1).alloc (Nat.le_refl _) (.cells #[.int .u64 (A 0), .int .u64 (A 1), .int .u64 (A 2), .int .u64 (A 3)] 26)))
          have l0 : w.heap.size < w1.heap.size := Nat.lt_of_lt_of_le (Nat.lt_of_lt_of_le (by omega) HW.out.2.2.2) hw1.size
          have l1 : w.heap.size + 1 < w1.heap.size := Nat.lt_of_lt_of_le (Nat.lt_of_lt_of_le (by omega) HW.out.2.2.2) hw1.size
          have HERB := Lib.hid ((below_st4 hWa.2.2.1 (Nat.le_refl _) noS).alloc (by rw [size_st4]; exact hWa.2.2.1.size) (.cells #[.int .u64 (A 0), .int .u64 (A 1), .int .u64 (A 2), .int .u64 (A 3)] 26))
          obtain ⟨⟨⟨a0, a1, a2, a3⟩, b0, b1, b2, b3⟩, ⟨⟨c0, c1, c2, c3⟩, d0, d1, d2, d3⟩, hBx, hsx⟩ := hWa
          clear hw1
          rcases hcs with ⟨rfl, hA, hpx, _⟩ | ⟨rfl, hno⟩
          · rw [hl] at hpx; cases hpx
          · have HNO := Lib.hid (HP.out.none (by rw [hl]; rfl))
            clear hno hl
            unfold setV
            go_wp2_with fail
            go_at_call 63
            refine (HSG.out _).mono ?_
            rintro e w2 ⟨rfl, rfl⟩
            have HRN := Lib.hid (show brkV true r = .tuple #[setV noS, .int .i64 0, .int .i64 81] by rw [HNO.out]; rfl)
            go_wp2_with fail
            refine bodyPost_ret (v := .tuple #[setV noS, .int .i64 0, .int .i64 81]) (by simp [results, Try.results50, go_sem, setV, noS, a0, a1, a2, a3, l0]) rfl ⟨by rw [HRN.out], ?_⟩
            first | exact HERB.out | exact HERB.out.drew
        | c :: q =>
          obtain ⟨hlt, h0⟩ := at_drop hl
          have h1 : (n : Int) < (s.size : Int) := Int.ofNat_lt.2 hlt
          have hc93 : c ≠ 93 := fun e => hf2 q (by rw [hl, e])
          have e93 : ((c.toNat : Int) == 93) = false := tst c 93 93 rfl _ (by simp [hc93])
          have n93 : ((c.toNat : Int) != 93) = true := by rw [bne, e93]; rfl
          have HLX := Lib.hid hl
          clear hf hf2 hc93 hl hlt
          go_wp2_with fail
          go_at_call 61
          refine (HNA.out _).mono ?_
          rintro e w1 ⟨A, m, b, rfl, hw1, hcs⟩
          have hWa := HW.out.below hw1
          have HW1 := Lib.hid (hWa.below ((Below.refl _ w1).alloc (Nat.le_refl _) (.cells #[.int .u64 (A 0), .int .u64 (A 1), .int .u64 (A 2), .int .u64 (A 3)] 26)))
          have l0 : w.heap.size < w1.heap.size := Nat.lt_of_lt_of_le (Nat.lt_of_lt_of_le (by omega) HW.out.2.2.2) hw1.size
          have l1 : w.heap.size + 1 < w1.heap.size := Nat.lt_of_lt_of_le (Nat.lt_of_lt_of_le (by omega) HW.out.2.2.2) hw1.size
          have HERB := Lib.hid ((below_st4 hWa.2.2.1 (Nat.le_refl _) noS).alloc (by rw [size_st4]; exact hWa.2.2.1.size) (.cells #[.int .u64 (A 0), .int .u64 (A 1), .int .u64 (A 2), .int .u64 (A 3)] 26))
          obtain ⟨⟨⟨a0, a1, a2, a3⟩, b0, b1, b2, b3⟩, ⟨⟨c0, c1, c2, c3⟩, d0, d1, d2, d3⟩, hBx, hsx⟩ := hWa
          clear hw1
          rcases hcs with ⟨rfl, hA, hpx, rfl, rfl, hk⟩ | ⟨rfl, hno⟩
          · skip
            have HBO := Lib.hid fun (W : World) => rboth_is S (itm (s.data.toList.drop n)).1 HS.out hA W
            obtain ⟨x, hx⟩ : ∃ x, x = itm (s.data.toList.drop n) := ⟨_, rfl⟩
            rw [← hx] at HBO hA hk HW1
            rw [← hx]
            obtain ⟨A, k⟩ := x
            dsimp only at HBO hA hk HW1 ⊢
            have HX := Lib.hid (And.intro hx.symm (And.intro hk hA))
            clear hx hk hA hpx
            unfold setV at HBO ⊢
            go_wp2_with fail
            skip
            go_at_call 62
            refine (HBO.out _).mono ?_
            rintro e w2 ⟨rfl, hw2⟩
            have hW2 := HW1.out.below hw2
            have HW3 := Lib.hid (hW2.store (bothS S A))
            clear a0 a1 a2 a3 b0 b1 b2 b3 c0 c1 c2 c3 d0 d1 d2 d3 hBx hsx
            obtain ⟨⟨⟨a0, a1, a2, a3⟩, b0, b1, b2, b3⟩, ⟨⟨c0, c1, c2, c3⟩, d0, d1, d2, d3⟩, hBx, hsx⟩ := hW2
            clear hw2
            go_wp2_with fail
            have h := RB.step HP.out HX.out.1 HX.out.2.1 HS.out HX.out.2.2 HW3.out rfl
            exact ⟨h.1, h.2⟩
          · skip
            cases hb : byteOf (s.data.toList.drop n) with
            | false =>
              rw [hb] at HSG
              have HNO := Lib.hid (HP.out.none (itm_zero hb hno))
              clear hno hb
              unfold setV
              go_wp2_with fail
              go_at_call 63
              refine (HSG.out _).mono ?_
              rintro e w2 ⟨rfl, rfl⟩
              have HRN := Lib.hid (show brkV true r = .tuple #[setV noS, .int .i64 0, .int .i64 81] by rw [HNO.out]; rfl)
              go_wp2_with fail
              refine bodyPost_ret (v := .tuple #[setV noS, .int .i64 0, .int .i64 81]) (by simp [results, Try.results50, go_sem, setV, noS, a0, a1, a2, a3, l0]) rfl ⟨by rw [HRN.out], ?_⟩
              first | exact HERB.out | exact HERB.out.drew
            | true =>
              rw [hb] at HSG
              clear hno
              have hl := HLX.out
              match q, hl with
              | [], hl =>
                have h2 : (s.size : Int) ≤ (n : Int) + 2 := by have := drop_end (drop_next hl); omega
                have hwk2 : wrap64 ((n : Int) + 2) = (n : Int) + 2 := HWR.out 2 (by decide)
                have HIT := Lib.hid (show itm (s.data.toList.drop n) = (withS noS c.toNat c.toNat, 1) by rw [hl] at hb ⊢; rw [itm_plain hb]; exact itmP_one hb (fun _ _ h => by cases h))
                have HWT := Lib.hid fun (W : World) => rwith_is S c.toNat c.toNat HS.out c.toNat_lt c.toNat_lt W
                have HTO := Lib.hid (set_with S HS.out c.toNat c.toNat)
                generalize hT : withS S c.toNat c.toNat = T at HWT HTO
                clear hT
                unfold setV
                have hwk1 : wrap64 ((n : Int) + 1) = (n : Int) + 1 := HWR.out 1 (by decide)
                clear hl hb 
                go_wp2_with fail
                go_at_call 63
                refine (HSG.out _).mono ?_
                rintro e w2 ⟨rfl, rfl⟩
                go_upto_region 22 with fail
                refine r22 s ⟨by omega, h0 (by omega)⟩ HWT.out HW1.out fun w4 hw4 => ?_
                have HW4 := Lib.hid hw4
                unfold setV
                clear hw4
                go_wp2_with fail
                rw [hwk1]
                exact (fun h => ⟨h.1, h.2⟩) (RB.step HP.out HIT.out (by decide) HS.out (OkS.no.withS _ _) HW4.out HTO.out)
              | [d], hl =>
                have h2 : (s.size : Int) ≤ (n : Int) + 2 := by have := drop_end (drop_next (drop_next hl)); omega
                have hwk2 : wrap64 ((n : Int) + 2) = (n : Int) + 2 := HWR.out 2 (by decide)
                have HIT := Lib.hid (show itm (s.data.toList.drop n) = (withS noS c.toNat c.toNat, 1) by rw [hl] at hb ⊢; rw [itm_plain hb]; exact itmP_one hb (fun _ _ h => by injection h with _ h; cases h))
                have HWT := Lib.hid fun (W : World) => rwith_is S c.toNat c.toNat HS.out c.toNat_lt c.toNat_lt W
                have HTO := Lib.hid (set_with S HS.out c.toNat c.toNat)
                generalize hT : withS S c.toNat c.toNat = T at HWT HTO
                clear hT
                unfold setV
                have hwk1 : wrap64 ((n : Int) + 1) = (n : Int) + 1 := HWR.out 1 (by decide)
                clear hl hb 
                go_wp2_with fail
                go_at_call 63
                refine (HSG.out _).mono ?_
                rintro e w2 ⟨rfl, rfl⟩
                go_upto_region 22 with fail
                refine r22 s ⟨by omega, h0 (by omega)⟩ HWT.out HW1.out fun w4 hw4 => ?_
                have HW4 := Lib.hid hw4
                unfold setV
                clear hw4
                go_wp2_with fail
                rw [hwk1]
                exact (fun h => ⟨h.1, h.2⟩) (RB.step HP.out HIT.out (by decide) HS.out (OkS.no.withS _ _) HW4.out HTO.out)
              | d :: e :: q2, hl =>
                obtain ⟨hlt1, p1⟩ := at_drop (drop_next hl)
                obtain ⟨hlt2, p2⟩ := at_drop (drop_next (drop_next hl))
                have h2 : (n : Int) + 2 < (s.size : Int) := by omega
                have h3 : (n : Int) + 1 < (s.size : Int) := by omega
                by_cases hd : d = 45
                · by_cases he : e = 93
                  · have e1 : ((d.toNat : Int) == 45) = true := tst d 45 45 rfl _ (by simp [hd])
                    have e20 : ((e.toNat : Int) == 93) = true := tst e 93 93 rfl _ (by simp [he])
                    have e2 : ((e.toNat : Int) != 93) = false := by rw [bne, e20]; rfl
                    have hwk2 : wrap64 ((n : Int) + 2) = (n : Int) + 2 := HWR.out 2 (by decide)
                    have HIT := Lib.hid (show itm (s.data.toList.drop n) = (withS noS c.toNat c.toNat, 1) by rw [hl] at hb ⊢; rw [itm_plain hb]; exact itmP_one hb (fun e' q' h => by injection h with _ h; injection h with h _; rw [← h]; exact he))
                    have HWT := Lib.hid fun (W : World) => rwith_is S c.toNat c.toNat HS.out c.toNat_lt c.toNat_lt W
                    have HTO := Lib.hid (set_with S HS.out c.toNat c.toNat)
                    generalize hT : withS S c.toNat c.toNat = T at HWT HTO
                    clear hT
                    unfold setV
                    have hwk1 : wrap64 ((n : Int) + 1) = (n : Int) + 1 := HWR.out 1 (by decide)
                    clear hl hb hd he
                    go_wp2_with fail
                    go_at_call 63
                    refine (HSG.out _).mono ?_
                    rintro e w2 ⟨rfl, rfl⟩
                    go_upto_region 22 with fail
                    refine r22 s ⟨by omega, h0 (by omega)⟩ HWT.out HW1.out fun w4 hw4 => ?_
                    have HW4 := Lib.hid hw4
                    unfold setV
                    clear hw4
                    go_wp2_with fail
                    rw [hwk1]
                    exact (fun h => ⟨h.1, h.2⟩) (RB.step HP.out HIT.out (by decide) HS.out (OkS.no.withS _ _) HW4.out HTO.out)
                  · subst hd
                    have hb' := hb
                    rw [hl] at hb'
                    have HI2 := Lib.hid (show itm (s.data.toList.drop n) = if byteOf (e :: q2) = true ∧ c.toNat ≤ e.toNat then (withS noS c.toNat e.toNat, 3) else (noS, 0) by rw [hl, itm_plain hb', itmP_two hb' he])
                    have HS2 := Lib.hid fun (W : World) => single_is s (n + 2) false (Nat.le_trans HZ.out (by decide)) W
                    rw [drop_next (drop_next hl), sgl_of (.inr fun q' hh => he (by injection hh))] at HS2
                    rw [show ((n + 2 : Nat) : Int) = (n : Int) + 2 from rfl] at HS2
                    have hwk1 : wrap64 ((n : Int) + 1) = (n : Int) + 1 := HWR.out 1 (by decide)
                    have hwk2 : wrap64 ((n : Int) + 2) = (n : Int) + 2 := HWR.out 2 (by decide)
                    have hwk3 : wrap64 ((n : Int) + 3) = (n : Int) + 3 := HWR.out 3 (by decide)
                    have e1 : ((45 : Int) == 45) = true := rfl
                    have e20 : ((e.toNat : Int) == 93) = false := tst e 93 93 rfl _ (by simp [he])
                    have e2 : ((e.toNat : Int) != 93) = true := by rw [bne, e20]; rfl
                    clear hl hb hb' he
                    cases hb2 : byteOf (e :: q2) with
                    | false =>
                      rw [hb2] at HS2
                      have HNO := Lib.hid (HP.out.none (by rw [HI2.out, if_neg fun h => by rw [hb2] at h; exact Bool.false_ne_true h.1]))
                      clear hb2
                      unfold setV
                      go_wp2_with fail
                      go_at_call 63
                      refine (HSG.out _).mono ?_
                      rintro e w2 ⟨rfl, rfl⟩
                      go_wp2_with fail
                      go_at_call 63
                      refine (HS2.out _).mono ?_
                      rintro e' w2 ⟨rfl, rfl⟩
                      go_upto_region 18 with fail
                      go_region
                      have HRN := Lib.hid (show brkV true r = .tuple #[setV noS, .int .i64 0, .int .i64 81] by rw [HNO.out]; rfl)
                      go_wp2_with fail
                      refine bodyPost_ret (v := .tuple #[setV noS, .int .i64 0, .int .i64 81]) (by simp [results, Try.results50, go_sem, setV, noS, a0, a1, a2, a3, l0]) rfl ⟨by rw [HRN.out], ?_⟩
                      first | exact HERB.out | exact HERB.out.drew
                    | true =>
                      rw [hb2] at HS2
                      by_cases hce : c.toNat ≤ e.toNat
                      · have hcei : (c.toNat : Int) ≤ (e.toNat : Int) := Int.ofNat_le.2 hce
                        have hcen : ¬ (e.toNat : Int) < (c.toNat : Int) := by omega
                        have hced : decide (e.toNat < c.toNat) = false := decide_eq_false (by omega)
                        have HIT := Lib.hid (show itm (s.data.toList.drop n) = (withS noS c.toNat e.toNat, 3) by rw [HI2.out, if_pos ⟨hb2, hce⟩])
                        have HWT := Lib.hid fun (W : World) => rwith_is S c.toNat e.toNat HS.out c.toNat_lt e.toNat_lt W
                        have HTO := Lib.hid (set_with S HS.out c.toNat e.toNat)
                        generalize hT : withS S c.toNat e.toNat = T at HWT HTO
                        clear hT hb2 hce
                        unfold setV
                        go_wp2_with fail
                        go_at_call 63
                        refine (HSG.out _).mono ?_
                        rintro e w2 ⟨rfl, rfl⟩
                        go_wp2_with fail
                        go_at_call 63
                        refine (HS2.out _).mono ?_
                        rintro e' w2 ⟨rfl, rfl⟩
                        go_upto_region 18 with fail
                        go_region
                        go_upto_region 20 with fail
                        refine r20 s ⟨by omega, h0 (by omega)⟩ ⟨by omega, p2 (by omega)⟩ HZ.out HWT.out HW1.out.drew fun w4 hw4 => ?_
                        have HW4 := Lib.hid hw4
                        unfold setV
                        clear hw4
                        go_wp2_with fail
                        rw [hwk3]
                        exact (fun h => ⟨h.1, h.2⟩) (RB.step HP.out HIT.out (by decide) HS.out (OkS.no.withS _ _) HW4.out HTO.out)
                      · have hcei : (e.toNat : Int) < (c.toNat : Int) := by omega
                        have hced : decide (e.toNat < c.toNat) = true := decide_eq_true (by omega)
                        have HNO := Lib.hid (HP.out.none (by rw [HI2.out, if_neg fun h => hce h.2]))
                        clear hb2 hce
                        unfold setV
                        go_wp2_with fail
                        go_at_call 63
                        refine (HSG.out _).mono ?_
                        rintro e w2 ⟨rfl, rfl⟩
                        go_wp2_with fail
                        go_at_call 63
                        refine (HS2.out _).mono ?_
                        rintro e' w2 ⟨rfl, rfl⟩
                        go_upto_region 18 with fail
                        go_region
                        have HRN := Lib.hid (show brkV true r = .tuple #[setV noS, .int .i64 0, .int .i64 81] by rw [HNO.out]; rfl)
                        go_wp2_with fail
                        refine bodyPost_ret (v := .tuple #[setV noS, .int .i64 0, .int .i64 81]) (by simp [results, Try.results50, go_sem, setV, noS, a0, a1, a2, a3, l0]) rfl ⟨by rw [HRN.out], ?_⟩
                        first | exact HERB.out | exact HERB.out.drew
                · have e1 : ((d.toNat : Int) == 45) = false := tst d 45 45 rfl _ (by simp [hd])
                  have hwk2 : wrap64 ((n : Int) + 2) = (n : Int) + 2 := HWR.out 2 (by decide)
                  have HIT := Lib.hid (show itm (s.data.toList.drop n) = (withS noS c.toNat c.toNat, 1) by rw [hl] at hb ⊢; rw [itm_plain hb]; exact itmP_one hb (fun e' q' h => by injection h with h _; exact absurd h hd))
                  have HWT := Lib.hid fun (W : World) => rwith_is S c.toNat c.toNat HS.out c.toNat_lt c.toNat_lt W
                  have HTO := Lib.hid (set_with S HS.out c.toNat c.toNat)
                  generalize hT : withS S c.toNat c.toNat = T at HWT HTO
                  clear hT
                  unfold setV
                  have hwk1 : wrap64 ((n : Int) + 1) = (n : Int) + 1 := HWR.out 1 (by decide)
                  clear hl hb hd
                  go_wp2_with fail
                  go_at_call 63
                  refine (HSG.out _).mono ?_
                  rintro e w2 ⟨rfl, rfl⟩
                  go_upto_region 22 with fail
                  refine r22 s ⟨by omega, h0 (by omega)⟩ HWT.out HW1.out fun w4 hw4 => ?_
                  have HW4 := Lib.hid hw4
                  unfold setV
                  clear hw4
                  go_wp2_with fail
                  rw [hwk1]
                  exact (fun h => ⟨h.1, h.2⟩) (RB.step HP.out HIT.out (by decide) HS.out (OkS.no.withS _ _) HW4.out HTO.out)
    · obtain ⟨hlt, h0⟩ := at_drop hq
      have h1 : (n : Int) < (s.size : Int) := Int.ofNat_lt.2 hlt
      have HR2 := Lib.hid hr2
      have hwk1 : wrap64 ((n : Int) + 1) = (n : Int) + 1 := HWR.out 1 (by decide)
      clear hr2 hq hlt
      have HWI := Lib.hid fun (W : World) => rwith_is S 10 10 HS.out (by decide) (by decide) W
      have HNT := Lib.hid fun (W : World) => rnot_is (withS S 10 10) (HS.out.withS _ _) W
      unfold setV at HWI HNT
      obtain ⟨⟨⟨a0, a1, a2, a3⟩, b0, b1, b2, b3⟩, ⟨⟨c0, c1, c2, c3⟩, d0, d1, d2, d3⟩, hBx, hsx⟩ := HW.out
      go_wp2_with fail
      go_at_call 14
      refine (HWI.out _).mono ?_
      rintro e w5 ⟨rfl, hb5⟩
      go_wp2_with fail
      go_at_call 64
      refine (HNT.out _).mono ?_
      rintro e w6 ⟨rfl, hb6⟩
      have hW6 := (HW.out.below hb5).below hb6
      obtain ⟨N, hN⟩ : ∃ N, N = notS (withS S 10 10) := ⟨_, rfl⟩
      rw [← hN]
      have HN2 := Lib.hid hN
      clear hN hb5 hb6 a0 a1 a2 a3 b0 b1 b2 b3 c0 c1 c2 c3 d0 d1 d2 d3 hBx hsx
      obtain ⟨⟨⟨a0, a1, a2, a3⟩, b0, b1, b2, b3⟩, ⟨⟨c0, c1, c2, c3⟩, d0, d1, d2, d3⟩, hBx, hsx⟩ := hW6
      have HERB := Lib.hid (below_st4 (below_st4 hBx (Nat.le_succ _) N) (Nat.le_refl _) N)
      clear hBx
      go_wp2_with fail
      refine bodyPost_ret (v := .tuple #[setV N, .int .i64 ((n : Int) + 1), .int .i64 0]) (by simp [results, Try.results50, go_sem, setV, a0, a1, a2, a3, hwk1]) rfl ⟨by rw [HR2.out, HN2.out]; rfl, ?_⟩
      exact HERB.out
end Go.Proofs.Ytpeidgppcdkjdaa

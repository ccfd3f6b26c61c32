/-
  TokenOn: it returns true and turns nothing that was there. No condition.
-/
import Derived.Test.YtkgpicalbpimdaaTkends
import Derived.Test.YtkgpicalbpimdaaTkalv
import Derived.Test.YtkgpicalbpimdaaTkrn
namespace Go.Proofs.Ytkgpicalbpimdaa
open Go.RowKit Go.Deep

theorem num_facts {l : List UInt8} {k : Nat} (h : k ≤ l.length) : ∃ (n i : Nat) (ok : Bool), numF l (k : Int) = (n, (i : Int), ok) ∧ k ≤ i ∧ i ≤ l.length ∧ ok = decide (k < i) ∧ n ≤ 999999999 ∧ ∀ m, k ≤ m → m < i → ∃ c, l[m]? = some c ∧ isDg c = true := by
  unfold numF
  rw [if_pos (by omega), Int.toNat_natCast]
  have hd := dg_le (l.drop k)
  rw [List.length_drop] at hd
  by_cases h1 : 1 ≤ dg (l.drop k) ∧ dg (l.drop k) ≤ 9
  · rw [if_pos h1]
    have hall := dg_all (l.drop k)
    have hv := numR_lt (l := l) (k := k) (j := dg (l.drop k)) hall
    rw [Nat.min_eq_left h1.2] at hv
    refine ⟨_, k + dg (l.drop k), true, rfl, by omega, by omega, by rw [decide_eq_true (by omega)], by omega, fun m hm1 hm2 => ?_⟩
    obtain ⟨c, hc, hdc⟩ := hall (m - k) (by omega)
    rw [List.getElem?_drop, show k + (m - k) = m by omega] at hc
    exact ⟨c, hc, hdc⟩
  · rw [if_neg h1]
    exact ⟨0, k, false, rfl, by omega, h, by rw [decide_eq_false (by omega)], by omega, fun m hm1 hm2 => by omega⟩
theorem endW_is {c : UInt8} (h : endW c = true) : c = 10 ∨ c = 59 := by
  unfold endW at h
  simp only [List.contains, List.elem] at h
  cases e : c == 10 with
  | true => exact .inl (beq_iff_eq.1 e)
  | false =>
    rw [e] at h
    cases e2 : c == 59 with
    | true => exact .inr (beq_iff_eq.1 e2)
    | false => rw [e2] at h; cases h
theorem endR_is {c : UInt8} (h : endR c = true) : c = 10 := by
  unfold endR at h
  simp only [List.contains, List.elem] at h
  cases e : c == 10 with
  | true => exact beq_iff_eq.1 e
  | false => rw [e] at h; cases h
set_option maxRecDepth 100000 in
set_option maxHeartbeats 16000000 in
theorem on_walk (t : ByteArray) (a : Int) (w : World) : Calls Try.prog 6 #[.string t, .int .i64 a] w (Alv w) := by
  have HAL := Lib.hid fun (W : World) => alive_is W
  unfold Alv at HAL ⊢
  by_cases hz : t.size ≤ 300
  case neg =>
    have g : decide ((t.size : Int) > 300) = true := decide_eq_true (by omega)
    have gn : decide (300 < t.size) = true := decide_eq_true (by omega)
    clear hz
    go_enter Try.func6, Try.ntmps6
    go_wp2_with fail
    go_at_call 10
    refine (HAL.out _).mono ?_
    rintro e w1 ⟨rfl, hb⟩
    have HB := Lib.hid hb
    clear hb
    go_wp2_with fail
    go_ret
    exact ⟨rfl, HB.out⟩
  case pos =>
  have gs : decide ((t.size : Int) > 300) = false := decide_eq_false (by omega)
  have gsn : decide (300 < t.size) = false := decide_eq_false (by omega)
  have gsi : (t.size : Int) ≤ 300 := by omega
  by_cases ha : a < 0
  case pos =>
    have g : decide (a < 0) = true := decide_eq_true ha
    clear ha hz
    go_enter Try.func6, Try.ntmps6
    go_wp2_with fail
    go_at_call 10
    refine (HAL.out _).mono ?_
    rintro e w1 ⟨rfl, hb⟩
    have HB := Lib.hid hb
    clear hb
    go_wp2_with fail
    go_ret
    exact ⟨rfl, HB.out⟩
  case neg =>
  have ga1 : decide (a < 0) = false := decide_eq_false ha
  have ga1i : 0 ≤ a := by omega
  by_cases hb : a > (t.size : Int)
  case pos =>
    have g : decide (a > (t.size : Int)) = true := decide_eq_true hb
    clear ha hz hb
    go_enter Try.func6, Try.ntmps6
    go_wp2_with fail
    go_at_call 10
    refine (HAL.out _).mono ?_
    rintro e w1 ⟨rfl, hb⟩
    have HB := Lib.hid hb
    clear hb
    go_wp2_with fail
    go_ret
    exact ⟨rfl, HB.out⟩
  case neg =>
  obtain ⟨k, rfl⟩ : ∃ k : Nat, a = (k : Int) := ⟨a.toNat, by omega⟩
  have ga2 : decide ((k : Int) > (t.size : Int)) = false := decide_eq_false hb
  have ga2n : decide (t.size < k) = false := decide_eq_false (by omega)
  have ga2i : (k : Int) ≤ (t.size : Int) := by omega
  have HSZ := Lib.hid (size_of (s := t) rfl)
  have HZ := Lib.hid hz
  have hkl : k ≤ t.data.toList.length := by have := HSZ.out; omega
  have HBL := Lib.hid fun (W : World) => blanks_is t (by omega) (k : Int) W
  have HNU := Lib.hid fun (W : World) => number_is t (by omega) (k : Int) (by omega) (by omega) W
  have HWO := Lib.hid fun (W : World) => word_is t (by omega) (k : Int) W
  have HRE := Lib.hid fun (W : World) => rest_is t (by omega) (k : Int) W
  obtain ⟨n, i, ok, hn, hki0, hil, hok, hn9, hdg⟩ := num_facts hkl
  rw [hn] at HNU
  obtain ⟨f, hf⟩ : ∃ f, f = k + blk (t.data.toList.drop k) := ⟨_, rfl⟩
  have hfl : f ≤ t.size := by
    have := blk_le (t.data.toList.drop k)
    rw [List.length_drop] at this
    have := HSZ.out
    omega
  have hbf : blanksF t.data.toList (k : Int) = (f : Int) := by
    unfold blanksF
    rw [if_pos (by omega), Int.toNat_natCast, hf]
    omega
  rw [hbf] at HBL
  obtain ⟨p, hp, hp1, hp2, hp3, hp4⟩ := up_bounds (st := endW) hkl
  obtain ⟨q, hq, hq1, hq2, hq3, hq4⟩ := up_bounds (st := endR) hkl
  have hord := up_order (l := t.data.toList) (k := k)
  have hpq : p ≤ q := by omega
  have HP := Lib.hid (show p = t.size ∨ ∃ c, t.data.toList[p]? = some c ∧ (c = 10 ∨ c = 59) by
    rcases hp4 with h | ⟨c, hc, hs⟩
    · exact .inl (by rw [HSZ.out]; exact h)
    · exact .inr ⟨c, hc, endW_is hs⟩)
  have HQ := Lib.hid (show q = t.size ∨ ∃ c, t.data.toList[q]? = some c ∧ c = 10 by
    rcases hq4 with h | ⟨c, hc, hs⟩
    · exact .inl (by rw [HSZ.out]; exact h)
    · exact .inr ⟨c, hc, endR_is hs⟩)
  have HE1 := Lib.hid fun (W : World) => ends_is (txt (upF endW t.data.toList (k : Int)).1) (by rw [size_txt]; have := up_len endW t.data.toList (k : Int); have := HSZ.out; omega) (by simp only [txt]; exact up_neat rfl _ _) W
  have HE2 := Lib.hid fun (W : World) => ends_is (txt (upF endR t.data.toList (k : Int)).1) (by rw [size_txt]; have := up_len endR t.data.toList (k : Int); have := HSZ.out; omega) (by simp only [txt]; exact up_neat rfl _ _) W
  unfold UpAns UpV at HWO HRE
  rw [hp] at HWO
  rw [hq] at HRE
  generalize txt (upF endW t.data.toList (k : Int)).1 = wS at HWO HE1
  generalize txt (upF endR t.data.toList (k : Int)).1 = rS at HRE HE2
  unfold NumV at HNU
  simp only [] at HNU
  have HKI := Lib.hid hki0
  have HDG := Lib.hid hdg
  have hps : p ≤ t.size := by rw [HSZ.out]; exact hp2
  have hqs : q ≤ t.size := by rw [HSZ.out]; exact hq2
  have his : i ≤ t.size := by rw [HSZ.out]; exact hil
  have hfk : k ≤ f := by omega
  have HB0 := Lib.hid (Below.refl w.heap.size w)
  have gf : decide ((f : Int) < (k : Int)) = false := decide_eq_false (by omega)
  have gfn : decide (f < k) = false := decide_eq_false (by omega)
  have gfi : (k : Int) ≤ (f : Int) := by omega
  have gfl : decide ((f : Int) > (t.size : Int)) = false := decide_eq_false (by omega)
  have gfln : decide (t.size < f) = false := decide_eq_false (by omega)
  have gfli : (f : Int) ≤ (t.size : Int) := by omega
  have gi1 : decide ((i : Int) < (k : Int)) = false := decide_eq_false (by omega)
  have gi1n : decide (i < k) = false := decide_eq_false (by omega)
  have gi1i : (k : Int) ≤ (i : Int) := by omega
  have gi2 : decide ((i : Int) > (t.size : Int)) = false := decide_eq_false (by omega)
  have gi2n : decide (t.size < i) = false := decide_eq_false (by omega)
  have gi2i : (i : Int) ≤ (t.size : Int) := by omega
  have gp1 : decide ((p : Int) < (k : Int)) = false := decide_eq_false (by omega)
  have gp1n : decide (p < k) = false := decide_eq_false (by omega)
  have gp1i : (k : Int) ≤ (p : Int) := by omega
  have gq1 : decide ((p : Int) > (q : Int)) = false := decide_eq_false (by omega)
  have gq1n : decide (q < p) = false := decide_eq_false (by omega)
  have gq1i : (p : Int) ≤ (q : Int) := by omega
  have gq2 : decide ((q : Int) > (t.size : Int)) = false := decide_eq_false (by omega)
  have gq2n : decide (t.size < q) = false := decide_eq_false (by omega)
  have gq2i : (q : Int) ≤ (t.size : Int) := by omega
  have gn0 : decide ((n : Int) < 0) = false := decide_eq_false (by omega)
  have gn0n : (0 : Int) ≤ (n : Int) := by omega
  have gn9 : decide ((n : Int) > 999999999) = false := decide_eq_false (by omega)
  have gn9n : decide (999999999 < n) = false := decide_eq_false (by omega)
  have gn9i : (n : Int) ≤ 999999999 := by omega
  clear hn hil hn9 hdg hf hbf hp hp1 hp2 hp3 hp4 hq hq1 hq2 hq3 hq4 hord hkl hb ha
  by_cases hki : k < i
  case pos =>
    rw [decide_eq_true hki] at hok
    subst hok
    clear hki0 hpq hfk
    have gik : decide ((i : Int) > (k : Int)) = true := decide_eq_true (by omega)
    have gikn : decide (k < i) = true := decide_eq_true (by omega)
    have giki : (k : Int) < (i : Int) := by omega
    clear hki
    go_enter Try.func6, Try.ntmps6
    go_wp2_with fail
    go_at_call 21
    refine (HBL.out _).mono ?_
    rintro e wa ⟨rfl, rfl⟩
    go_wp2_with fail
    go_at_call 13
    refine (HNU.out _).mono ?_
    rintro e wb ⟨rfl, rfl⟩
    go_wp2_with fail
    go_at_call 15
    refine (HWO.out _).mono ?_
    rintro e w1 ⟨rfl, hb⟩
    have HB1 := Lib.hid (HB0.out.trans (hb.mono HB0.out.size))
    clear hb
    go_wp2_with fail
    go_at_call 17
    refine (HRE.out _).mono ?_
    rintro e w2 ⟨rfl, hb⟩
    have HB2 := Lib.hid (HB1.out.trans (hb.mono HB1.out.size))
    clear hb
    go_wp2_with fail
    clear gf gfn gfi gfl gfln gfli gi1 gi1n gi1i gi2 gi2n gi2i gp1 gp1n gp1i gq1 gq1n gq1i gq2 gq2n gq2i gik gikn giki gn0 gn0n gn9 gn9n gn9i gs gsn gsi ga1 ga1i ga2 ga2n ga2i
    go_loopw [13] (fun x wz => ∃ m : Nat, x = .int .i64 (m : Int) ∧ Hid (k ≤ m ∧ m ≤ i) ∧ wz = w2) (fun x _ => i + 1 - (intOf x).toNat)
    case atStart => exact ⟨k, rfl, Lib.hid ⟨Nat.le_refl _, HKI.out⟩, rfl⟩
    case round =>
      obtain ⟨m, rfl, HJ, rfl⟩ := hrel
      by_cases hm : m < i
      case pos =>
        have gm : decide ((m : Int) < (i : Int)) = true := decide_eq_true (by omega)
        have gmn : decide (m < i) = true := decide_eq_true hm
        have gmi : (m : Int) < (i : Int) := by omega
        obtain ⟨c, hc, hdg⟩ := HDG.out m HJ.out.1 hm
        have hat := at_of rfl hc
        have hms : m < t.size := by have := (List.getElem?_eq_some_iff.1 hc).1; rw [← HSZ.out] at this; exact this
        have hmsi : (m : Int) < (t.size : Int) := by omega
        obtain ⟨m1, hm1⟩ : ∃ m1, m1 = m + 1 := ⟨_, rfl⟩
        have HWM := Lib.hid (addU (by have := HZ.out; omega) hm1)
        have HML := Lib.hid (show i + 1 - m1 < i + 1 - m by omega)
        have HN := Lib.hid (show k ≤ m1 ∧ m1 ≤ i by have := HJ.out.1; omega)
        unfold isDg at hdg
        simp only [Bool.and_eq_true, decide_eq_true_eq] at hdg
        have g48 : decide ((c.toNat : Int) < 48) = false := decide_eq_false (by omega)
        have g48n : decide (c.toNat < 48) = false := decide_eq_false (by omega)
        have g48i : (48 : Int) ≤ (c.toNat : Int) := by omega
        have g57 : decide ((c.toNat : Int) > 57) = false := decide_eq_false (by omega)
        have g57n : decide (57 < c.toNat) = false := decide_eq_false (by omega)
        have g57i : (c.toNat : Int) ≤ 57 := by omega
        have hwm := HWM.out
        clear hc hm1 hdg
        go_wp2_with fail
        exact ⟨⟨m1, rfl, HN, trivial⟩, by simpa [intOf] using HML.out⟩
      case neg =>
        have gm : decide ((m : Int) < (i : Int)) = false := decide_eq_false (by omega)
        have gmn : decide (m < i) = false := decide_eq_false hm
        have gmi : (i : Int) ≤ (m : Int) := by omega
        rcases HQ.out with hql | ⟨cq, hcq, hq10⟩
        · have hql' : q = t.size := hql
          rcases HP.out with hpl | ⟨cp, hcp, hpe⟩
          · have hpl' : p = t.size := hpl
            have gq : ((q : Int) == (t.size : Int)) = true := by rw [beq_iff_eq]; omega
            have gqn : (q == t.size) = true := by rw [beq_iff_eq]; omega
            have gp : ((p : Int) == (t.size : Int)) = true := by rw [beq_iff_eq]; omega
            have gpn : (p == t.size) = true := by rw [beq_iff_eq]; omega
            clear hm
            go_wp2_with fail
            go_at_call 24
            refine (HE1.out _).mono ?_
            rintro e wa ⟨rfl, rfl⟩
            go_wp2_with fail
            go_at_call 24
            refine (HE2.out _).mono ?_
            rintro e wb ⟨rfl, rfl⟩
            go_wp2_with fail
            go_at_call 10
            refine (HAL.out _).mono ?_
            rintro e wc ⟨rfl, hb⟩
            have HB3 := Lib.hid (HB2.out.trans (hb.mono HB2.out.size))
            clear hb
            go_wp2_with fail
            go_ret
            exact ⟨rfl, HB3.out⟩
          · have hplt : p < t.size := by have := (List.getElem?_eq_some_iff.1 hcp).1; rw [← HSZ.out] at this; exact this
            by_cases hp10 : cp = 10
            · have gq : ((q : Int) == (t.size : Int)) = true := by rw [beq_iff_eq]; omega
              have gqn : (q == t.size) = true := by rw [beq_iff_eq]; omega
              have gp : ((p : Int) == (t.size : Int)) = false := by rw [beq_eq_false_iff_ne]; omega
              have gpn : (p == t.size) = false := by rw [beq_eq_false_iff_ne]; omega
              have gpl : p < t.size := by omega
              have gpli : (p : Int) < (t.size : Int) := by omega
              have gpa := at_of rfl hcp
              have gp1 : ((cp.toNat : Int) == 10) = true := u8_yes cp 10 hp10 (by decide)
              clear hm hcp hp10
              go_wp2_with fail
              go_at_call 24
              refine (HE1.out _).mono ?_
              rintro e wa ⟨rfl, rfl⟩
              go_wp2_with fail
              go_at_call 24
              refine (HE2.out _).mono ?_
              rintro e wb ⟨rfl, rfl⟩
              go_wp2_with fail
              go_at_call 10
              refine (HAL.out _).mono ?_
              rintro e wc ⟨rfl, hb⟩
              have HB3 := Lib.hid (HB2.out.trans (hb.mono HB2.out.size))
              clear hb
              go_wp2_with fail
              go_ret
              exact ⟨rfl, HB3.out⟩
            · have hp59 : cp = 59 := by rcases hpe with h | h
                                        · exact absurd h hp10
                                        · exact h
              have gq : ((q : Int) == (t.size : Int)) = true := by rw [beq_iff_eq]; omega
              have gqn : (q == t.size) = true := by rw [beq_iff_eq]; omega
              have gp : ((p : Int) == (t.size : Int)) = false := by rw [beq_eq_false_iff_ne]; omega
              have gpn : (p == t.size) = false := by rw [beq_eq_false_iff_ne]; omega
              have gpl : p < t.size := by omega
              have gpli : (p : Int) < (t.size : Int) := by omega
              have gpa := at_of rfl hcp
              have gp1 : ((cp.toNat : Int) == 10) = false := u8_no cp 10 hp10 (by decide)
              have gp2 : ((cp.toNat : Int) == 59) = true := u8_yes cp 59 hp59 (by decide)
              clear hm hcp hp10 hp59
              go_wp2_with fail
              go_at_call 24
              refine (HE1.out _).mono ?_
              rintro e wa ⟨rfl, rfl⟩
              go_wp2_with fail
              go_at_call 24
              refine (HE2.out _).mono ?_
              rintro e wb ⟨rfl, rfl⟩
              go_wp2_with fail
              go_at_call 10
              refine (HAL.out _).mono ?_
              rintro e wc ⟨rfl, hb⟩
              have HB3 := Lib.hid (HB2.out.trans (hb.mono HB2.out.size))
              clear hb
              go_wp2_with fail
              go_ret
              exact ⟨rfl, HB3.out⟩
        · have hqlt : q < t.size := by have := (List.getElem?_eq_some_iff.1 hcq).1; rw [← HSZ.out] at this; exact this
          rcases HP.out with hpl | ⟨cp, hcp, hpe⟩
          · have hpl' : p = t.size := hpl
            have gq : ((q : Int) == (t.size : Int)) = false := by rw [beq_eq_false_iff_ne]; omega
            have gqn : (q == t.size) = false := by rw [beq_eq_false_iff_ne]; omega
            have gql : q < t.size := by omega
            have gqli : (q : Int) < (t.size : Int) := by omega
            have gqa := at_of rfl hcq
            have gq1 : ((cq.toNat : Int) == 10) = true := u8_yes cq 10 hq10 (by decide)
            have gp : ((p : Int) == (t.size : Int)) = true := by rw [beq_iff_eq]; omega
            have gpn : (p == t.size) = true := by rw [beq_iff_eq]; omega
            clear hm hcq hq10
            go_wp2_with fail
            go_at_call 24
            refine (HE1.out _).mono ?_
            rintro e wa ⟨rfl, rfl⟩
            go_wp2_with fail
            go_at_call 24
            refine (HE2.out _).mono ?_
            rintro e wb ⟨rfl, rfl⟩
            go_wp2_with fail
            go_at_call 10
            refine (HAL.out _).mono ?_
            rintro e wc ⟨rfl, hb⟩
            have HB3 := Lib.hid (HB2.out.trans (hb.mono HB2.out.size))
            clear hb
            go_wp2_with fail
            go_ret
            exact ⟨rfl, HB3.out⟩
          · have hplt : p < t.size := by have := (List.getElem?_eq_some_iff.1 hcp).1; rw [← HSZ.out] at this; exact this
            by_cases hp10 : cp = 10
            · have gq : ((q : Int) == (t.size : Int)) = false := by rw [beq_eq_false_iff_ne]; omega
              have gqn : (q == t.size) = false := by rw [beq_eq_false_iff_ne]; omega
              have gql : q < t.size := by omega
              have gqli : (q : Int) < (t.size : Int) := by omega
              have gqa := at_of rfl hcq
              have gq1 : ((cq.toNat : Int) == 10) = true := u8_yes cq 10 hq10 (by decide)
              have gp : ((p : Int) == (t.size : Int)) = false := by rw [beq_eq_false_iff_ne]; omega
              have gpn : (p == t.size) = false := by rw [beq_eq_false_iff_ne]; omega
              have gpl : p < t.size := by omega
              have gpli : (p : Int) < (t.size : Int) := by omega
              have gpa := at_of rfl hcp
              have gp1 : ((cp.toNat : Int) == 10) = true := u8_yes cp 10 hp10 (by decide)
              clear hm hcq hq10 hcp hp10
              go_wp2_with fail
              go_at_call 24
              refine (HE1.out _).mono ?_
              rintro e wa ⟨rfl, rfl⟩
              go_wp2_with fail
              go_at_call 24
              refine (HE2.out _).mono ?_
              rintro e wb ⟨rfl, rfl⟩
              go_wp2_with fail
              go_at_call 10
              refine (HAL.out _).mono ?_
              rintro e wc ⟨rfl, hb⟩
              have HB3 := Lib.hid (HB2.out.trans (hb.mono HB2.out.size))
              clear hb
              go_wp2_with fail
              go_ret
              exact ⟨rfl, HB3.out⟩
            · have hp59 : cp = 59 := by rcases hpe with h | h
                                        · exact absurd h hp10
                                        · exact h
              have gq : ((q : Int) == (t.size : Int)) = false := by rw [beq_eq_false_iff_ne]; omega
              have gqn : (q == t.size) = false := by rw [beq_eq_false_iff_ne]; omega
              have gql : q < t.size := by omega
              have gqli : (q : Int) < (t.size : Int) := by omega
              have gqa := at_of rfl hcq
              have gq1 : ((cq.toNat : Int) == 10) = true := u8_yes cq 10 hq10 (by decide)
              have gp : ((p : Int) == (t.size : Int)) = false := by rw [beq_eq_false_iff_ne]; omega
              have gpn : (p == t.size) = false := by rw [beq_eq_false_iff_ne]; omega
              have gpl : p < t.size := by omega
              have gpli : (p : Int) < (t.size : Int) := by omega
              have gpa := at_of rfl hcp
              have gp1 : ((cp.toNat : Int) == 10) = false := u8_no cp 10 hp10 (by decide)
              have gp2 : ((cp.toNat : Int) == 59) = true := u8_yes cp 59 hp59 (by decide)
              clear hm hcq hq10 hcp hp10 hp59
              go_wp2_with fail
              go_at_call 24
              refine (HE1.out _).mono ?_
              rintro e wa ⟨rfl, rfl⟩
              go_wp2_with fail
              go_at_call 24
              refine (HE2.out _).mono ?_
              rintro e wb ⟨rfl, rfl⟩
              go_wp2_with fail
              go_at_call 10
              refine (HAL.out _).mono ?_
              rintro e wc ⟨rfl, hb⟩
              have HB3 := Lib.hid (HB2.out.trans (hb.mono HB2.out.size))
              clear hb
              go_wp2_with fail
              go_ret
              exact ⟨rfl, HB3.out⟩

  case neg =>
    rw [decide_eq_false hki] at hok
    subst hok
    clear hki0 hpq hfk
    have gik : decide ((i : Int) > (k : Int)) = false := decide_eq_false (by omega)
    have gikn : decide (k < i) = false := decide_eq_false (by omega)
    have giki : (i : Int) ≤ (k : Int) := by omega
    clear hki
    go_enter Try.func6, Try.ntmps6
    go_wp2_with fail
    go_at_call 21
    refine (HBL.out _).mono ?_
    rintro e wa ⟨rfl, rfl⟩
    go_wp2_with fail
    go_at_call 13
    refine (HNU.out _).mono ?_
    rintro e wb ⟨rfl, rfl⟩
    go_wp2_with fail
    go_at_call 15
    refine (HWO.out _).mono ?_
    rintro e w1 ⟨rfl, hb⟩
    have HB1 := Lib.hid (HB0.out.trans (hb.mono HB0.out.size))
    clear hb
    go_wp2_with fail
    go_at_call 17
    refine (HRE.out _).mono ?_
    rintro e w2 ⟨rfl, hb⟩
    have HB2 := Lib.hid (HB1.out.trans (hb.mono HB1.out.size))
    clear hb
    go_wp2_with fail
    clear gf gfn gfi gfl gfln gfli gi1 gi1n gi1i gi2 gi2n gi2i gp1 gp1n gp1i gq1 gq1n gq1i gq2 gq2n gq2i gik gikn giki gn0 gn0n gn9 gn9n gn9i gs gsn gsi ga1 ga1i ga2 ga2n ga2i
    go_loopw [13] (fun x wz => ∃ m : Nat, x = .int .i64 (m : Int) ∧ Hid (k ≤ m ∧ m ≤ i) ∧ wz = w2) (fun x _ => i + 1 - (intOf x).toNat)
    case atStart => exact ⟨k, rfl, Lib.hid ⟨Nat.le_refl _, HKI.out⟩, rfl⟩
    case round =>
      obtain ⟨m, rfl, HJ, rfl⟩ := hrel
      by_cases hm : m < i
      case pos =>
        have gm : decide ((m : Int) < (i : Int)) = true := decide_eq_true (by omega)
        have gmn : decide (m < i) = true := decide_eq_true hm
        have gmi : (m : Int) < (i : Int) := by omega
        obtain ⟨c, hc, hdg⟩ := HDG.out m HJ.out.1 hm
        have hat := at_of rfl hc
        have hms : m < t.size := by have := (List.getElem?_eq_some_iff.1 hc).1; rw [← HSZ.out] at this; exact this
        have hmsi : (m : Int) < (t.size : Int) := by omega
        obtain ⟨m1, hm1⟩ : ∃ m1, m1 = m + 1 := ⟨_, rfl⟩
        have HWM := Lib.hid (addU (by have := HZ.out; omega) hm1)
        have HML := Lib.hid (show i + 1 - m1 < i + 1 - m by omega)
        have HN := Lib.hid (show k ≤ m1 ∧ m1 ≤ i by have := HJ.out.1; omega)
        unfold isDg at hdg
        simp only [Bool.and_eq_true, decide_eq_true_eq] at hdg
        have g48 : decide ((c.toNat : Int) < 48) = false := decide_eq_false (by omega)
        have g48n : decide (c.toNat < 48) = false := decide_eq_false (by omega)
        have g48i : (48 : Int) ≤ (c.toNat : Int) := by omega
        have g57 : decide ((c.toNat : Int) > 57) = false := decide_eq_false (by omega)
        have g57n : decide (57 < c.toNat) = false := decide_eq_false (by omega)
        have g57i : (c.toNat : Int) ≤ 57 := by omega
        have hwm := HWM.out
        clear hc hm1 hdg
        go_wp2_with fail
        exact ⟨⟨m1, rfl, HN, trivial⟩, by simpa [intOf] using HML.out⟩
      case neg =>
        have gm : decide ((m : Int) < (i : Int)) = false := decide_eq_false (by omega)
        have gmn : decide (m < i) = false := decide_eq_false hm
        have gmi : (i : Int) ≤ (m : Int) := by omega
        rcases HQ.out with hql | ⟨cq, hcq, hq10⟩
        · have hql' : q = t.size := hql
          rcases HP.out with hpl | ⟨cp, hcp, hpe⟩
          · have hpl' : p = t.size := hpl
            have gq : ((q : Int) == (t.size : Int)) = true := by rw [beq_iff_eq]; omega
            have gqn : (q == t.size) = true := by rw [beq_iff_eq]; omega
            have gp : ((p : Int) == (t.size : Int)) = true := by rw [beq_iff_eq]; omega
            have gpn : (p == t.size) = true := by rw [beq_iff_eq]; omega
            clear hm
            go_wp2_with fail
            go_at_call 24
            refine (HE1.out _).mono ?_
            rintro e wa ⟨rfl, rfl⟩
            go_wp2_with fail
            go_at_call 24
            refine (HE2.out _).mono ?_
            rintro e wb ⟨rfl, rfl⟩
            go_wp2_with fail
            go_at_call 10
            refine (HAL.out _).mono ?_
            rintro e wc ⟨rfl, hb⟩
            have HB3 := Lib.hid (HB2.out.trans (hb.mono HB2.out.size))
            clear hb
            go_wp2_with fail
            go_ret
            exact ⟨rfl, HB3.out⟩
          · have hplt : p < t.size := by have := (List.getElem?_eq_some_iff.1 hcp).1; rw [← HSZ.out] at this; exact this
            by_cases hp10 : cp = 10
            · have gq : ((q : Int) == (t.size : Int)) = true := by rw [beq_iff_eq]; omega
              have gqn : (q == t.size) = true := by rw [beq_iff_eq]; omega
              have gp : ((p : Int) == (t.size : Int)) = false := by rw [beq_eq_false_iff_ne]; omega
              have gpn : (p == t.size) = false := by rw [beq_eq_false_iff_ne]; omega
              have gpl : p < t.size := by omega
              have gpli : (p : Int) < (t.size : Int) := by omega
              have gpa := at_of rfl hcp
              have gp1 : ((cp.toNat : Int) == 10) = true := u8_yes cp 10 hp10 (by decide)
              clear hm hcp hp10
              go_wp2_with fail
              go_at_call 24
              refine (HE1.out _).mono ?_
              rintro e wa ⟨rfl, rfl⟩
              go_wp2_with fail
              go_at_call 24
              refine (HE2.out _).mono ?_
              rintro e wb ⟨rfl, rfl⟩
              go_wp2_with fail
              go_at_call 10
              refine (HAL.out _).mono ?_
              rintro e wc ⟨rfl, hb⟩
              have HB3 := Lib.hid (HB2.out.trans (hb.mono HB2.out.size))
              clear hb
              go_wp2_with fail
              go_ret
              exact ⟨rfl, HB3.out⟩
            · have hp59 : cp = 59 := by rcases hpe with h | h
                                        · exact absurd h hp10
                                        · exact h
              have gq : ((q : Int) == (t.size : Int)) = true := by rw [beq_iff_eq]; omega
              have gqn : (q == t.size) = true := by rw [beq_iff_eq]; omega
              have gp : ((p : Int) == (t.size : Int)) = false := by rw [beq_eq_false_iff_ne]; omega
              have gpn : (p == t.size) = false := by rw [beq_eq_false_iff_ne]; omega
              have gpl : p < t.size := by omega
              have gpli : (p : Int) < (t.size : Int) := by omega
              have gpa := at_of rfl hcp
              have gp1 : ((cp.toNat : Int) == 10) = false := u8_no cp 10 hp10 (by decide)
              have gp2 : ((cp.toNat : Int) == 59) = true := u8_yes cp 59 hp59 (by decide)
              clear hm hcp hp10 hp59
              go_wp2_with fail
              go_at_call 24
              refine (HE1.out _).mono ?_
              rintro e wa ⟨rfl, rfl⟩
              go_wp2_with fail
              go_at_call 24
              refine (HE2.out _).mono ?_
              rintro e wb ⟨rfl, rfl⟩
              go_wp2_with fail
              go_at_call 10
              refine (HAL.out _).mono ?_
              rintro e wc ⟨rfl, hb⟩
              have HB3 := Lib.hid (HB2.out.trans (hb.mono HB2.out.size))
              clear hb
              go_wp2_with fail
              go_ret
              exact ⟨rfl, HB3.out⟩
        · have hqlt : q < t.size := by have := (List.getElem?_eq_some_iff.1 hcq).1; rw [← HSZ.out] at this; exact this
          rcases HP.out with hpl | ⟨cp, hcp, hpe⟩
          · have hpl' : p = t.size := hpl
            have gq : ((q : Int) == (t.size : Int)) = false := by rw [beq_eq_false_iff_ne]; omega
            have gqn : (q == t.size) = false := by rw [beq_eq_false_iff_ne]; omega
            have gql : q < t.size := by omega
            have gqli : (q : Int) < (t.size : Int) := by omega
            have gqa := at_of rfl hcq
            have gq1 : ((cq.toNat : Int) == 10) = true := u8_yes cq 10 hq10 (by decide)
            have gp : ((p : Int) == (t.size : Int)) = true := by rw [beq_iff_eq]; omega
            have gpn : (p == t.size) = true := by rw [beq_iff_eq]; omega
            clear hm hcq hq10
            go_wp2_with fail
            go_at_call 24
            refine (HE1.out _).mono ?_
            rintro e wa ⟨rfl, rfl⟩
            go_wp2_with fail
            go_at_call 24
            refine (HE2.out _).mono ?_
            rintro e wb ⟨rfl, rfl⟩
            go_wp2_with fail
            go_at_call 10
            refine (HAL.out _).mono ?_
            rintro e wc ⟨rfl, hb⟩
            have HB3 := Lib.hid (HB2.out.trans (hb.mono HB2.out.size))
            clear hb
            go_wp2_with fail
            go_ret
            exact ⟨rfl, HB3.out⟩
          · have hplt : p < t.size := by have := (List.getElem?_eq_some_iff.1 hcp).1; rw [← HSZ.out] at this; exact this
            by_cases hp10 : cp = 10
            · have gq : ((q : Int) == (t.size : Int)) = false := by rw [beq_eq_false_iff_ne]; omega
              have gqn : (q == t.size) = false := by rw [beq_eq_false_iff_ne]; omega
              have gql : q < t.size := by omega
              have gqli : (q : Int) < (t.size : Int) := by omega
              have gqa := at_of rfl hcq
              have gq1 : ((cq.toNat : Int) == 10) = true := u8_yes cq 10 hq10 (by decide)
              have gp : ((p : Int) == (t.size : Int)) = false := by rw [beq_eq_false_iff_ne]; omega
              have gpn : (p == t.size) = false := by rw [beq_eq_false_iff_ne]; omega
              have gpl : p < t.size := by omega
              have gpli : (p : Int) < (t.size : Int) := by omega
              have gpa := at_of rfl hcp
              have gp1 : ((cp.toNat : Int) == 10) = true := u8_yes cp 10 hp10 (by decide)
              clear hm hcq hq10 hcp hp10
              go_wp2_with fail
              go_at_call 24
              refine (HE1.out _).mono ?_
              rintro e wa ⟨rfl, rfl⟩
              go_wp2_with fail
              go_at_call 24
              refine (HE2.out _).mono ?_
              rintro e wb ⟨rfl, rfl⟩
              go_wp2_with fail
              go_at_call 10
              refine (HAL.out _).mono ?_
              rintro e wc ⟨rfl, hb⟩
              have HB3 := Lib.hid (HB2.out.trans (hb.mono HB2.out.size))
              clear hb
              go_wp2_with fail
              go_ret
              exact ⟨rfl, HB3.out⟩
            · have hp59 : cp = 59 := by rcases hpe with h | h
                                        · exact absurd h hp10
                                        · exact h
              have gq : ((q : Int) == (t.size : Int)) = false := by rw [beq_eq_false_iff_ne]; omega
              have gqn : (q == t.size) = false := by rw [beq_eq_false_iff_ne]; omega
              have gql : q < t.size := by omega
              have gqli : (q : Int) < (t.size : Int) := by omega
              have gqa := at_of rfl hcq
              have gq1 : ((cq.toNat : Int) == 10) = true := u8_yes cq 10 hq10 (by decide)
              have gp : ((p : Int) == (t.size : Int)) = false := by rw [beq_eq_false_iff_ne]; omega
              have gpn : (p == t.size) = false := by rw [beq_eq_false_iff_ne]; omega
              have gpl : p < t.size := by omega
              have gpli : (p : Int) < (t.size : Int) := by omega
              have gpa := at_of rfl hcp
              have gp1 : ((cp.toNat : Int) == 10) = false := u8_no cp 10 hp10 (by decide)
              have gp2 : ((cp.toNat : Int) == 59) = true := u8_yes cp 59 hp59 (by decide)
              clear hm hcq hq10 hcp hp10 hp59
              go_wp2_with fail
              go_at_call 24
              refine (HE1.out _).mono ?_
              rintro e wa ⟨rfl, rfl⟩
              go_wp2_with fail
              go_at_call 24
              refine (HE2.out _).mono ?_
              rintro e wb ⟨rfl, rfl⟩
              go_wp2_with fail
              go_at_call 10
              refine (HAL.out _).mono ?_
              rintro e wc ⟨rfl, hb⟩
              have HB3 := Lib.hid (HB2.out.trans (hb.mono HB2.out.size))
              clear hb
              go_wp2_with fail
              go_ret
              exact ⟨rfl, HB3.out⟩


end Go.Proofs.Ytkgpicalbpimdaa

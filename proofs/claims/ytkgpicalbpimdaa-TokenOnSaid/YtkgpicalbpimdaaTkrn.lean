/-
  The document's Number. Condition: a text of at most 2^20 bytes.
-/
import Derived.Test.YtkgpicalbpimdaaTkra
namespace Go.Proofs.Ytkgpicalbpimdaa
open Go.RowKit Go.Deep

theorem numR_dg {l : List UInt8} {k j : Nat} (h : ∀ m, m < j → ∃ c, (l.drop k)[m]? = some c ∧ isDg c = true) (hs : ∀ c, l[k + j]? = some c → isDg c = false) : dg (l.drop k) = j := by
  rw [dg_split _ j h, List.drop_drop]
  cases e : l[k + j]? with
  | none => rw [drop_end (by simpa using e), dg_nil]; omega
  | some c => rw [drop_at e, dg_no (hs c e)]; omega
theorem numR_zero {l : List UInt8} {i : Int} {k j : Nat} (h : ∀ m, m < j → ∃ c, (l.drop k)[m]? = some c ∧ isDg c = true) (hi : i = (k : Int)) (hs : ∀ c, l[k + j]? = some c → isDg c = false) (h0 : j = 0) : numF l i = (0, i, false) := by
  have e := numR_dg h hs
  subst hi
  unfold numF
  rw [if_pos (by omega), Int.toNat_natCast, e, if_neg (by omega)]
theorem numR_many {l : List UInt8} {i : Int} {k j : Nat} (h : ∀ m, m < j → ∃ c, (l.drop k)[m]? = some c ∧ isDg c = true) (hi : i = (k : Int)) (hs : ∀ c, l[k + j]? = some c → isDg c = false) (h0 : 9 < j) : numF l i = (0, i, false) := by
  have e := numR_dg h hs
  subst hi
  unfold numF
  rw [if_pos (by omega), Int.toNat_natCast, e, if_neg (by omega)]
theorem numR_some {l : List UInt8} {i : Int} {k j : Nat} (h : ∀ m, m < j → ∃ c, (l.drop k)[m]? = some c ∧ isDg c = true) (hi : i = (k : Int)) (hs : ∀ c, l[k + j]? = some c → isDg c = false) (h0 : 1 ≤ j) (h9 : j ≤ 9) : numF l i = (val ((l.drop k).take (min j 9)), ((k + j : Nat) : Int), true) := by
  have e := numR_dg h hs
  subst hi
  unfold numF
  rw [if_pos (by omega), Int.toNat_natCast, e, if_pos ⟨h0, h9⟩, Nat.min_eq_left h9]
  simp
theorem num_out {l : List UInt8} {i : Int} (h : ¬ (0 ≤ i ∧ i ≤ (l.length : Int))) : numF l i = (0, i, false) := by
  unfold numF
  split
  case isTrue h0 =>
    rw [drop_end (by omega), dg_nil, if_neg (by omega)]
  case isFalse => rfl
theorem numR_lt {l : List UInt8} {k j : Nat} (h : ∀ m, m < j → ∃ c, (l.drop k)[m]? = some c ∧ isDg c = true) : val ((l.drop k).take (min j 9)) < 1000000000 := by
  have h1 : val ((l.drop k).take (min j 9)) < 10 ^ ((l.drop k).take (min j 9)).length := by
    refine val_lt _ fun c hc => ?_
    obtain ⟨m, hm⟩ := List.mem_iff_getElem?.1 hc
    have hmj : m < min j 9 := by
      have := (List.getElem?_eq_some_iff.1 hm).1
      simp at this
      omega
    obtain ⟨c', hc', hd⟩ := h m (by omega)
    rw [List.getElem?_take_of_lt hmj, hc'] at hm
    injection hm with hm
    rw [← hm]; exact hd
  refine Nat.lt_of_lt_of_le h1 ?_
  rw [show (1000000000 : Nat) = 10 ^ 9 by decide]
  exact Nat.pow_le_pow_right (by omega) (by simp; omega)
theorem subR {E k : Nat} {i : Int} {j : Nat} (hi : i = (k : Int)) (h : E = k + j) (hj : j ≤ 1048576) : wrap64 ((E : Int) - i) = (j : Int) := by
  rw [show (E : Int) - i = (j : Int) by omega]
  exact IntWalk.wrap64_in _ (by omega)
set_option maxRecDepth 100000 in
set_option maxHeartbeats 4000000 in
theorem rnumber_is (t : ByteArray) (hz : t.size ≤ 1048576) (i : Int) (w : World) : Calls Try.prog 14 #[.string t, .int .i64 i] w fun e w' => e = .returned (NumV (numF t.data.toList i)) ∧ w' = w := by
  have HSZ := Lib.hid (size_of (s := t) rfl)
  have HZ := Lib.hid hz
  clear hz
  have HX := Lib.hid fun (W : World) => rplace_is t i W
  by_cases hv : 0 ≤ i ∧ i ≤ (t.size : Int)
  case neg =>
    have HE := Lib.hid (num_out (l := t.data.toList) (i := i) (fun h => hv ⟨h.1, by rw [HSZ.out]; exact h.2⟩))
    rw [show (decide (0 ≤ i) && decide (i ≤ (t.size : Int))) = false by rw [← Bool.decide_and]; exact decide_eq_false hv] at HX
    clear hv
    go_enter Try.func14, Try.ntmps14
    go_wp2_with fail
    go_at_call 26
    refine (HX.out _).mono ?_
    rintro e w1 ⟨rfl, rfl⟩
    go_wp2_with fail
    go_loopw [8, 9] (fun v x wr => v = .int .i64 i ∧ x = .int .i64 0 ∧ wr = w1) (fun _ _ _ => 0)
    case atStart => exact ⟨rfl, rfl, rfl⟩
    case round =>
      obtain ⟨rfl, rfl, rfl⟩ := hrel
      go_wp2_with fail
      refine bodyPost_ret (v := .tuple #[.int .i64 0, .int .i64 i, .bool false]) (by simp [results, Try.results14, go_sem]) rfl ⟨by rw [HE.out]; rfl, rfl⟩
  case pos =>
  rw [show (decide (0 ≤ i) && decide (i ≤ (t.size : Int))) = true by rw [← Bool.decide_and]; exact decide_eq_true hv] at HX
  obtain ⟨k, hk⟩ : ∃ k : Nat, i = (k : Int) := ⟨i.toNat, by omega⟩
  have HK := Lib.hid (And.intro hk (show k ≤ t.size by omega))
  clear hv hk
  go_enter Try.func14, Try.ntmps14
  go_wp2_with fail
  go_at_call 26
  refine (HX.out _).mono ?_
  rintro e w1 ⟨rfl, rfl⟩
  go_wp2_with fail
  go_loopw [8, 9] (fun v x wr => ∃ (I : Int) (j E n : Nat), v = .int .i64 I ∧ x = .int .i64 (n : Int) ∧ Hid (I = (E : Int) ∧ E = k + j ∧ (E : Int) = i + (j : Int) ∧ n = val ((t.data.toList.drop k).take (min j 9)) ∧ i = (k : Int) ∧ E ≤ t.size ∧ ∀ m, m < j → ∃ c, (t.data.toList.drop k)[m]? = some c ∧ isDg c = true) ∧ wr = w1) (fun v _ _ => t.size + 1 - (intOf v).toNat)
  case atStart => exact ⟨i, 0, k, 0, rfl, rfl, Lib.hid ⟨HK.out.1, rfl, by have := HK.out.1; omega, by simp [val], HK.out.1, HK.out.2, fun m hm => by omega⟩, rfl⟩
  case round =>
    obtain ⟨I, j, E, n, rfl, rfl, HJ0, rfl⟩ := hrel
    have hIE := HJ0.out.1
    subst hIE
    have HJ := Lib.hid HJ0.out.2
    clear HJ0 HK HX
    have hes := HJ.out.2.2.2.2.1
    have HJA := Lib.hid HJ.out.2.2.2.2.2
    have HSUB := Lib.hid (subR HJ.out.2.2.2.1 HJ.out.1 (by have := HZ.out; have := HJ.out.1; omega))
    have HJ : Hid (E = k + j ∧ (E : Int) = i + (j : Int) ∧ n = val ((t.data.toList.drop k).take (min j 9)) ∧ i = (k : Int) ∧ ∀ m, m < j → ∃ c, (t.data.toList.drop k)[m]? = some c ∧ isDg c = true) := Lib.hid ⟨HJ.out.1, HJ.out.2.1, HJ.out.2.2.1, HJ.out.2.2.2.1, HJA.out⟩
    clear HJA
    by_cases hm : E < t.size
    · have gm : decide ((E : Int) < (t.size : Int)) = true := decide_eq_true (by omega)
      have hmi : (E : Int) < (t.size : Int) := by omega
      obtain ⟨c, hc⟩ : ∃ c, t.data.toList[E]? = some c := ⟨_, List.getElem?_eq_getElem (by simpa using hm)⟩
      have hat := at_of rfl hc
      by_cases h48 : 48 ≤ c.toNat
      · have g48 : decide ((c.toNat : Int) ≥ 48) = true := decide_eq_true (by omega)
        have g48n : (48 : Int) ≤ (c.toNat : Int) := by omega
        by_cases h57 : c.toNat ≤ 57
        · have g57 : decide ((c.toNat : Int) ≤ 57) = true := decide_eq_true (by omega)
          have g57n : (c.toNat : Int) ≤ 57 := by omega
          have hdg : isDg c = true := by unfold isDg; rw [decide_eq_true h48, decide_eq_true h57]; rfl
          obtain ⟨E1, hE1⟩ : ∃ E1, E1 = E + 1 := ⟨_, rfl⟩
          have HWE := Lib.hid (addU (by have := HZ.out; omega) hE1)
          have HML := Lib.hid (show t.size + 1 - E1 < t.size + 1 - E by omega)
          have hc2 : (t.data.toList.drop k)[j]? = some c := by rw [List.getElem?_drop, ← HJ.out.1]; exact hc
          have HA := Lib.hid (show ∀ m, m < j + 1 → ∃ c, (t.data.toList.drop k)[m]? = some c ∧ isDg c = true from fun m hm => by
            by_cases e : m = j
            · subst e; exact ⟨c, hc2, hdg⟩
            · exact HJ.out.2.2.2.2 m (by omega))
          by_cases h9 : j < 9
          · have G9 := Lib.hid (show decide (wrap64 ((E : Int) - i) < 9) = true by rw [HSUB.out]; exact decide_eq_true (by omega))
            obtain ⟨d, hd⟩ : ∃ d, c.toNat = 48 + d := ⟨c.toNat - 48, by omega⟩
            have hn1 : n < 10000000000 := by rw [HJ.out.2.2.1]; exact Nat.lt_trans (numR_lt HJ.out.2.2.2.2) (by decide)
            have hEi : (E : Int) < 140737488355328 := by have := HZ.out; omega
            have HD9 := Lib.hid (show d ≤ 9 by omega)
            have HN := Lib.hid (show ((E1 : Nat) : Int) = (E1 : Int) ∧ E1 = k + (j + 1) ∧ (E1 : Int) = i + ((j + 1 : Nat) : Int) ∧ 10 * n + d = val ((t.data.toList.drop k).take (min (j + 1) 9)) ∧ i = (k : Int) ∧ E1 ≤ t.size from ⟨rfl, by have := HJ.out.1; omega, by have := HJ.out.2.1; omega, by
              rw [Nat.min_eq_left (show j + 1 ≤ 9 by omega), val_take hc2, HJ.out.2.2.1, Nat.min_eq_left (show j ≤ 9 by omega)]; omega, HJ.out.2.2.2.1, by omega⟩)
            obtain ⟨hw1, hw2, hw3, hw4, hw5⟩ := num_wraps hEi hn1 hd HD9.out
            have HW3 := Lib.hid (show wrap64 (wrap64 (10 * (n : Int)) + (d : Int)) = ((10 * n + d : Nat) : Int) by rw [hw1, show ((10 * n : Nat) : Int) + (d : Int) = 10 * (n : Int) + (d : Int) by rw [Int.natCast_mul]; rfl, hw3])
            have hwE := HWE.out
            have g9 := G9.out
            clear hm hc h48 h57 hdg hE1 hc2 h9 hes hd hn1 hEi hw1 hw3 hw4 HZ HSZ
            go_wp2_with fail
            rw [HW3.out]
            exact ⟨⟨E1, j + 1, E1, 10 * n + d, rfl, rfl, Lib.hid ⟨rfl, HN.out.2.1, HN.out.2.2.1, HN.out.2.2.2.1, HN.out.2.2.2.2.1, HN.out.2.2.2.2.2, HA.out⟩, trivial⟩, by simpa [intOf] using HML.out⟩
          · have G9 := Lib.hid (show decide (wrap64 ((E : Int) - i) < 9) = false by rw [HSUB.out]; exact decide_eq_false (by omega))
            have HN := Lib.hid (show E1 = k + (j + 1) ∧ (E1 : Int) = i + ((j + 1 : Nat) : Int) ∧ n = val ((t.data.toList.drop k).take (min (j + 1) 9)) ∧ i = (k : Int) ∧ E1 ≤ t.size from ⟨by have := HJ.out.1; omega, by have := HJ.out.2.1; omega, by
              rw [Nat.min_eq_right (show 9 ≤ j + 1 by omega), HJ.out.2.2.1, Nat.min_eq_right (show 9 ≤ j by omega)], HJ.out.2.2.2.1, by omega⟩)
            have hwE := HWE.out
            have g9 := G9.out
            clear hm hc h48 h57 hdg hE1 hc2 h9 hes HZ HSZ
            go_wp2_with fail
            exact ⟨⟨E1, j + 1, E1, n, rfl, rfl, Lib.hid ⟨rfl, HN.out.1, HN.out.2.1, HN.out.2.2.1, HN.out.2.2.2.1, HN.out.2.2.2.2, HA.out⟩, trivial⟩, by simpa [intOf] using HML.out⟩
        · have g57 : decide ((c.toNat : Int) ≤ 57) = false := decide_eq_false (by omega)
          have g57m : decide (c.toNat ≤ 57) = false := decide_eq_false h57
          have g57n : (57 : Int) < (c.toNat : Int) := by omega
          have hst : ∀ c', t.data.toList[E]? = some c' → isDg c' = false := fun c' hc' => by
            rw [hc] at hc'; injection hc' with hc'; rw [← hc']; unfold isDg; rw [decide_eq_false h57, Bool.and_false]
          by_cases hj0 : j = 0
          · have gz : ((E : Int) == i) = true := by rw [beq_iff_eq]; have := HJ.out.2.1; omega
            have HE := Lib.hid (numR_zero HJ.out.2.2.2.2 HJ.out.2.2.2.1 (by rw [← HJ.out.1]; exact hst) hj0)
            clear hm hc h48 h57 hes HZ HSZ hj0 hst
            go_wp2_with fail
            refine bodyPost_ret (v := .tuple #[.int .i64 0, .int .i64 i, .bool false]) (by simp [results, Try.results14, go_sem]) rfl ⟨by rw [HE.out]; rfl, rfl⟩
          · have gz : ((E : Int) == i) = false := by rw [beq_eq_false_iff_ne]; have := HJ.out.2.1; omega
            by_cases h9 : j ≤ 9
            · have GG := Lib.hid (show decide (wrap64 ((E : Int) - i) > 9) = false by rw [HSUB.out]; exact decide_eq_false (by omega))
              have HE := Lib.hid (numR_some HJ.out.2.2.2.2 HJ.out.2.2.2.1 (by rw [← HJ.out.1]; exact hst) (by omega) h9)
              rw [Nat.min_eq_left h9, ← HJ.out.1] at HE
              have HV := HJ.out.2.2.1
              rw [Nat.min_eq_left h9] at HV
              rw [← HV] at HE
              have gg := GG.out
              clear HV hm hc h48 h57 hes HZ HSZ hj0 hst h9
              go_wp2_with fail
              refine bodyPost_ret (v := .tuple #[.int .i64 (n : Int), .int .i64 (E : Int), .bool true]) (by simp [results, Try.results14, go_sem]) rfl ⟨by rw [HE.out]; rfl, rfl⟩
            · have GG := Lib.hid (show decide (wrap64 ((E : Int) - i) > 9) = true by rw [HSUB.out]; exact decide_eq_true (by omega))
              have HE := Lib.hid (numR_many HJ.out.2.2.2.2 HJ.out.2.2.2.1 (by rw [← HJ.out.1]; exact hst) (by omega))
              have gg := GG.out
              clear hm hc h48 h57 hes HZ HSZ hj0 hst h9
              go_wp2_with fail
              refine bodyPost_ret (v := .tuple #[.int .i64 0, .int .i64 i, .bool false]) (by simp [results, Try.results14, go_sem]) rfl ⟨by rw [HE.out]; rfl, rfl⟩

      · have g48 : decide ((c.toNat : Int) ≥ 48) = false := decide_eq_false (by omega)
        have g48m : decide (48 ≤ c.toNat) = false := decide_eq_false h48
        have g48n : (c.toNat : Int) < 48 := by omega
        have hst : ∀ c', t.data.toList[E]? = some c' → isDg c' = false := fun c' hc' => by
          rw [hc] at hc'; injection hc' with hc'; rw [← hc']; unfold isDg; rw [decide_eq_false h48, Bool.false_and]
        by_cases hj0 : j = 0
        · have gz : ((E : Int) == i) = true := by rw [beq_iff_eq]; have := HJ.out.2.1; omega
          have HE := Lib.hid (numR_zero HJ.out.2.2.2.2 HJ.out.2.2.2.1 (by rw [← HJ.out.1]; exact hst) hj0)
          clear hm hc h48 hes HZ HSZ hj0 hst
          go_wp2_with fail
          refine bodyPost_ret (v := .tuple #[.int .i64 0, .int .i64 i, .bool false]) (by simp [results, Try.results14, go_sem]) rfl ⟨by rw [HE.out]; rfl, rfl⟩
        · have gz : ((E : Int) == i) = false := by rw [beq_eq_false_iff_ne]; have := HJ.out.2.1; omega
          by_cases h9 : j ≤ 9
          · have GG := Lib.hid (show decide (wrap64 ((E : Int) - i) > 9) = false by rw [HSUB.out]; exact decide_eq_false (by omega))
            have HE := Lib.hid (numR_some HJ.out.2.2.2.2 HJ.out.2.2.2.1 (by rw [← HJ.out.1]; exact hst) (by omega) h9)
            rw [Nat.min_eq_left h9, ← HJ.out.1] at HE
            have HV := HJ.out.2.2.1
            rw [Nat.min_eq_left h9] at HV
            rw [← HV] at HE
            have gg := GG.out
            clear HV hm hc h48 hes HZ HSZ hj0 hst h9
            go_wp2_with fail
            refine bodyPost_ret (v := .tuple #[.int .i64 (n : Int), .int .i64 (E : Int), .bool true]) (by simp [results, Try.results14, go_sem]) rfl ⟨by rw [HE.out]; rfl, rfl⟩
          · have GG := Lib.hid (show decide (wrap64 ((E : Int) - i) > 9) = true by rw [HSUB.out]; exact decide_eq_true (by omega))
            have HE := Lib.hid (numR_many HJ.out.2.2.2.2 HJ.out.2.2.2.1 (by rw [← HJ.out.1]; exact hst) (by omega))
            have gg := GG.out
            clear hm hc h48 hes HZ HSZ hj0 hst h9
            go_wp2_with fail
            refine bodyPost_ret (v := .tuple #[.int .i64 0, .int .i64 i, .bool false]) (by simp [results, Try.results14, go_sem]) rfl ⟨by rw [HE.out]; rfl, rfl⟩

    · have gm : decide ((E : Int) < (t.size : Int)) = false := decide_eq_false (by omega)
      have gmn : decide (E < t.size) = false := decide_eq_false hm
      have hge : (t.size : Int) ≤ (E : Int) := by omega
      have hst : ∀ c', t.data.toList[E]? = some c' → isDg c' = false := fun c' hc' => by
        have h1 := (List.getElem?_eq_some_iff.1 hc').1
        rw [← HSZ.out] at h1
        exact absurd h1 hm
      by_cases hj0 : j = 0
      · have gz : ((E : Int) == i) = true := by rw [beq_iff_eq]; have := HJ.out.2.1; omega
        have HE := Lib.hid (numR_zero HJ.out.2.2.2.2 HJ.out.2.2.2.1 (by rw [← HJ.out.1]; exact hst) hj0)
        clear hm hes HZ HSZ hj0 hst
        go_wp2_with fail
        refine bodyPost_ret (v := .tuple #[.int .i64 0, .int .i64 i, .bool false]) (by simp [results, Try.results14, go_sem]) rfl ⟨by rw [HE.out]; rfl, rfl⟩
      · have gz : ((E : Int) == i) = false := by rw [beq_eq_false_iff_ne]; have := HJ.out.2.1; omega
        by_cases h9 : j ≤ 9
        · have GG := Lib.hid (show decide (wrap64 ((E : Int) - i) > 9) = false by rw [HSUB.out]; exact decide_eq_false (by omega))
          have HE := Lib.hid (numR_some HJ.out.2.2.2.2 HJ.out.2.2.2.1 (by rw [← HJ.out.1]; exact hst) (by omega) h9)
          rw [Nat.min_eq_left h9, ← HJ.out.1] at HE
          have HV := HJ.out.2.2.1
          rw [Nat.min_eq_left h9] at HV
          rw [← HV] at HE
          have gg := GG.out
          clear HV hm hes HZ HSZ hj0 hst h9
          go_wp2_with fail
          refine bodyPost_ret (v := .tuple #[.int .i64 (n : Int), .int .i64 (E : Int), .bool true]) (by simp [results, Try.results14, go_sem]) rfl ⟨by rw [HE.out]; rfl, rfl⟩
        · have GG := Lib.hid (show decide (wrap64 ((E : Int) - i) > 9) = true by rw [HSUB.out]; exact decide_eq_true (by omega))
          have HE := Lib.hid (numR_many HJ.out.2.2.2.2 HJ.out.2.2.2.1 (by rw [← HJ.out.1]; exact hst) (by omega))
          have gg := GG.out
          clear hm hes HZ HSZ hj0 hst h9
          go_wp2_with fail
          refine bodyPost_ret (v := .tuple #[.int .i64 0, .int .i64 i, .bool false]) (by simp [results, Try.results14, go_sem]) rfl ⟨by rw [HE.out]; rfl, rfl⟩

end Go.Proofs.Ytkgpicalbpimdaa

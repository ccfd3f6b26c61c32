/-
  The number at a place. Condition: a text of less than 2^47 bytes.
-/
import Derived.Test.YtncbmdbfdjhkeaaTkblk
namespace Go.Proofs.Ytncbmdbfdjhkeaa
open Go.RowKit

def fig : List UInt8 := [48, 49, 50, 51, 52, 53, 54, 55, 56, 57]
theorem fig_of (c : UInt8) : fig.contains c = isDg c := by
  have h : ∀ n : Fin 256, fig.contains (UInt8.ofNat n.val) = isDg (UInt8.ofNat n.val) := by decide +kernel
  have := h ⟨c.toNat, c.toNat_lt⟩
  simpa using this
def NumI (l : List UInt8) (i : Int) (j : Nat) : Prop := j ≤ 10 ∧ (j = 0 ∨ (0 ≤ i ∧ i + (j : Int) ≤ (l.length : Int))) ∧ ∀ k, k < j → ∃ c, (l.drop i.toNat)[k]? = some c ∧ isDg c = true
theorem NumI.zero (l : List UInt8) (i : Int) : NumI l i 0 := ⟨by omega, .inl rfl, fun k hk => by omega⟩
theorem num_stop {l : List UInt8} {i : Int} {j : Nat} (h : NumI l i j) (hi : 0 ≤ i) (hs : oneF fig l (i + (j : Int)) = false) : dg (l.drop i.toNat) = j := by
  rw [dg_split _ j h.2.2]
  unfold oneF at hs
  rw [if_pos (by omega)] at hs
  rw [List.drop_drop]
  rw [show (i + (j : Int)).toNat = i.toNat + j by omega] at hs
  cases e : l[i.toNat + j]? with
  | none =>
    rw [drop_end (by simpa using e), dg_nil]
    omega
  | some c =>
    rw [e] at hs
    rw [drop_at e, dg_no (by rw [← fig_of]; exact hs)]
    omega
theorem num_go {l : List UInt8} {i : Int} {j : Nat} (h : NumI l i j) (h9 : j ≤ 9) (hs : oneF fig l (i + (j : Int)) = true) : 0 ≤ i ∧ NumI l i (j + 1) ∧ ∃ c d : Nat, ∃ b : UInt8, b.toNat = c ∧ c = 48 + d ∧ d ≤ 9 ∧ l[i.toNat + j]? = some b ∧ val ((l.drop i.toNat).take (j + 1)) = 10 * val ((l.drop i.toNat).take j) + d := by
  obtain ⟨h0, h1, b, hb, hc⟩ := oneF_yes hs
  have hi : 0 ≤ i := by have := h.2.1; omega
  rw [show (i + (j : Int)).toNat = i.toNat + j by omega] at hb
  rw [fig_of] at hc
  have hb2 : (l.drop i.toNat)[j]? = some b := by rw [List.getElem?_drop]; exact hb
  refine ⟨hi, ⟨by omega, .inr ⟨hi, by omega⟩, fun k hk => ?_⟩, b.toNat, b.toNat - 48, b, rfl, ?_, ?_, hb, val_take hb2⟩
  · by_cases hkj : k = j
    · subst hkj
      exact ⟨b, hb2, hc⟩
    · exact h.2.2 k (by omega)
  · unfold isDg at hc
    simp only [Bool.and_eq_true, decide_eq_true_eq] at hc
    omega
  · unfold isDg at hc
    simp only [Bool.and_eq_true, decide_eq_true_eq] at hc
    omega
theorem NumI.val_lt {l : List UInt8} {i : Int} {j : Nat} (h : NumI l i j) : val ((l.drop i.toNat).take j) < 10000000000 := by
  have h1 : val ((l.drop i.toNat).take j) < 10 ^ ((l.drop i.toNat).take j).length := by
    refine Proofs.Ytncbmdbfdjhkeaa.val_lt _ fun c hc => ?_
    obtain ⟨k, hk⟩ := List.mem_iff_getElem?.1 hc
    have hkj : k < j := by
      have := (List.getElem?_eq_some_iff.1 hk).1
      simp at this
      omega
    obtain ⟨c', hc', hd⟩ := h.2.2 k hkj
    rw [List.getElem?_take_of_lt hkj, hc'] at hk
    injection hk with hk
    rw [← hk]; exact hd
  refine Nat.lt_of_lt_of_le h1 ?_
  rw [show (10000000000 : Nat) = 10 ^ 10 by decide]
  exact Nat.pow_le_pow_right (by omega) (by simp; have := h.1; omega)

theorem num_exit_zero {l : List UInt8} {i : Int} {j : Nat} (h : NumI l i j) (h0 : j = 0) (hs : oneF fig l (i + (j : Int)) = false) : numF l i = (0, i, false) := by
  subst h0
  unfold numF
  split
  case isTrue hi =>
    have : dg (l.drop i.toNat) = 0 := num_stop (j := 0) h hi hs
    rw [if_neg (by omega)]
  case isFalse => rfl
theorem num_exit_many {l : List UInt8} {i : Int} {j : Nat} (h : NumI l i j) (h0 : 9 < j) : numF l i = (0, i, false) := by
  unfold numF
  split
  case isTrue hi =>
    have := dg_split _ j h.2.2
    rw [if_neg (by omega)]
  case isFalse => rfl
theorem num_exit {l : List UInt8} {i : Int} {j : Nat} (h : NumI l i j) (h0 : 1 ≤ j) (h9 : j ≤ 9) (hs : oneF fig l (i + (j : Int)) = false) : numF l i = (val ((l.drop i.toNat).take j), i + (j : Int), true) := by
  have hi : 0 ≤ i := by have := h.2.1; omega
  have e : dg (l.drop i.toNat) = j := num_stop h hi hs
  unfold numF
  rw [if_pos hi, e, if_pos ⟨h0, h9⟩]

theorem num_wraps {K n d B : Nat} (hK : (K : Int) < 140737488355328) (hn : n < 10000000000) (hb : B = 48 + d) (hd : d ≤ 9) :
    wrap64 (10 * (n : Int)) = ((10 * n : Nat) : Int) ∧ IntKind.u8.wrap ((B : Int) - 48) = (d : Int) ∧ wrap64 (10 * (n : Int) + (d : Int)) = ((10 * n + d : Nat) : Int) ∧ wrap64 ((K : Int) + 1) = (K : Int) + 1 ∧ wrap64 (d : Int) = (d : Int) := by
  have e1 : 10 * (n : Int) = ((10 * n : Nat) : Int) := by omega
  have e2 : (B : Int) - 48 = (d : Int) := by omega
  have e3 : 10 * (n : Int) + (d : Int) = ((10 * n + d : Nat) : Int) := by omega
  rw [e3, e1, e2]
  exact ⟨IntWalk.wrap64_in _ (by omega), IntWalk.u8_in _ (by omega), IntWalk.wrap64_in _ (by omega), IntWalk.wrap64_in _ (by omega), IntWalk.wrap64_in _ (by omega)⟩
theorem num_sub {E i : Int} {j : Nat} (h : E = i + (j : Int)) (hj : j ≤ 10) : wrap64 (E - i) = (j : Int) := by
  have he : E - i = (j : Int) := by omega
  rw [he]; exact IntWalk.wrap64_in (j : Int) (by omega)
def NumV (p : Nat × Int × Bool) : Value := .tuple #[.int .i64 (p.1 : Int), .int .i64 p.2.1, .bool p.2.2]
set_option maxRecDepth 100000 in
set_option maxHeartbeats 2000000 in
theorem tk_number_is (t : ByteArray) (hz : t.size ≤ 140737488355328) (i : Int) (hi1 : -9223372036854775808 ≤ i) (hi2 : i < 9223372036854775808) (w : World) : Calls Try.prog 42 #[.string t, .int .i64 i] w fun e w' => e = .returned (NumV (numF t.data.toList i)) ∧ w' = w := by
  have HO := Lib.hid fun (j : Int) (W : World) => tk_one_of ⟨#[48, 49, 50, 51, 52, 53, 54, 55, 56, 57]⟩ t j W
  have HZ := Lib.hid hz
  have HI := Lib.hid (And.intro hi1 hi2)
  clear hz hi1 hi2
  go_enter Try.func42, Try.ntmps42
  go_wp2_with fail
  refine tk_wp_scope_again 0 (fun a' w' => w = w' ∧ ∃ (j n : Nat) (E : Int) (u10 u11 u12 u13 u14 u15 u16 u17 u18 u19 u20 u21 u22 u23 u24 u25 u26 u27 u28 u29 u30 u31 u32 u33 u34 u35 u36 u37 u38 u39 u40 u41 u9 : Value), Hid (NumI t.data.toList i j ∧ n = val ((t.data.toList.drop i.toNat).take j) ∧ E = i + (j : Int)) ∧ a' = { tmps := #[.string t, .int .i64 i, undef, undef, .int .i64 0, .int .i64 0, .bool false, .int .i64 (n : Int), .int .i64 E, u9, u10, u11, u12, u13, u14, u15, u16, u17, u18, u19, u20, u21, u22, u23, u24, u25, u26, u27, u28, u29, u30, u31, u32, u33, u34, u35, u36, u37, u38, u39, u40, u41], defers := [] }) (fun a' _ => 10 - (intOf (a'.tmps.getD 8 undef) - i).toNat) rfl ?_ ?_
  · intro hp
    have HP := Lib.hid hp
    clear hp
    go_wp2_with fail
    go_step3
    simp only [Exit.then]
    rename_i hK
    exact hK _ _ (HP.out _ _ ⟨rfl, 0, 0, i, _, _, _, _, _, _, _, _, _, _, _, _, _, _, _, _, _, _, _, _, _, _, _, _, _, _, _, _, _, _, _, _, _, Lib.hid ⟨NumI.zero _ _, by simp [val], by simp⟩, rfl⟩)
  · rintro a' w' ⟨rfl, j, n, E, u10, u11, u12, u13, u14, u15, u16, u17, u18, u19, u20, u21, u22, u23, u24, u25, u26, u27, u28, u29, u30, u31, u32, u33, u34, u35, u36, u37, u38, u39, u40, u41, u9, HJ, rfl⟩
    have h10 := HJ.out.1.1
    have hsub := num_sub HJ.out.2.2 h10
    by_cases h9 : j ≤ 9
    · have g9 : decide (wrap64 (E - i) ≤ 9) = true := by rw [hsub]; exact decide_eq_true (by omega)
      cases ho : oneF fig t.data.toList (i + (j : Int)) with
      | true =>
        obtain ⟨hi, hn, c, d, b, hbc, hcd, hd9, hb, hv⟩ := num_go HJ.out.1 h9 ho
        obtain ⟨K, hK⟩ : ∃ K : Nat, K = i.toNat + j := ⟨_, rfl⟩
        have hEK : E = (K : Int) := by rw [HJ.out.2.2]; omega
        subst hEK
        rw [← hK] at hb
        have hoj := HO.out (K : Int)
        rw [show oneF (⟨#[48, 49, 50, 51, 52, 53, 54, 55, 56, 57]⟩ : ByteArray).data.toList t.data.toList (K : Int) = true by rw [HJ.out.2.2]; exact ho] at hoj
        have HOJ := Lib.hid hoj
        have hat := tk_at_of rfl hb
        have hKt : K < t.size := by
          have := (List.getElem?_eq_some_iff.1 hb).1
          simpa using this
        have hKi : (K : Int) < 140737488355328 := by have := HZ.out; omega
        have hn1 : n < 10000000000 := by rw [HJ.out.2.1]; exact HJ.out.1.val_lt
        have HN := Lib.hid (show NumI t.data.toList i (j + 1) ∧ 10 * n + d = val ((t.data.toList.drop i.toNat).take (j + 1)) ∧ (K : Int) + 1 = i + ((j + 1 : Nat) : Int) from ⟨hn, by rw [hv, HJ.out.2.1], by omega⟩)
        have HM := Lib.hid (show 10 - ((K : Int) + 1 - i).toNat < 10 - ((K : Int) - i).toNat by omega)
        obtain ⟨hw1, hw2, hw3, hw4, hw5⟩ := num_wraps hKi hn1 (show b.toNat = 48 + d by rw [hbc, hcd]) hd9
        have HW := Lib.hid (And.intro hw3 hw4)
        clear hw3 hw4 ho hn hv hcd hd9 hbc hi h9 hoj hsub hn1 hK hb h10 hKi
        clear HO HI
        go_wp2_with fail
        go_at_call 38
        refine (HOJ.out _).mono ?_
        rintro e w1 ⟨rfl, rfl⟩
        go_wp2_with fail
        go_step3
        rw [HW.out.1, HW.out.2]
        exact ⟨rfl, ⟨rfl, j + 1, 10 * n + d, (K : Int) + 1, _, _, _, _, _, _, _, _, _, _, _, _, _, _, _, _, _, _, _, _, _, _, _, _, _, _, _, _, _, _, _, _, _, Lib.hid HN.out, rfl⟩, by simpa [intOf] using HM.out⟩
      | false =>
        have HOJ := Lib.hid fun (W : World) => by
          have h := HO.out E W
          rw [show oneF (⟨#[48, 49, 50, 51, 52, 53, 54, 55, 56, 57]⟩ : ByteArray).data.toList t.data.toList E = false by rw [HJ.out.2.2]; exact ho] at h
          exact h
        by_cases hj0 : j = 0
        · have gz : (wrap64 (E - i) == 0) = true := by rw [hsub, hj0]; rfl
          have HE := Lib.hid (num_exit_zero HJ.out.1 hj0 ho)
          clear hsub ho hj0 h9 h10
          go_wp2_with fail
          go_at_call 38
          refine (HOJ.out _).mono ?_
          rintro e w1 ⟨rfl, rfl⟩
          go_wp2_with fail
          simp only [Exit.jump]
          refine bodyPost_ret (v := .tuple #[.int .i64 0, .int .i64 i, .bool false]) (by simp [results, Try.results42, go_sem]) rfl ⟨by rw [HE.out]; rfl, rfl⟩
        · have gz : (wrap64 (E - i) == 0) = false := by rw [hsub]; exact beq_eq_false_iff_ne.2 (by omega)
          have gg : decide (wrap64 (E - i) > 9) = false := by rw [hsub]; exact decide_eq_false (by omega)
          have HE := Lib.hid (num_exit HJ.out.1 (by omega) h9 ho)
          rw [← HJ.out.2.1, ← HJ.out.2.2] at HE
          clear hsub ho hj0 h9 h10
          go_wp2_with fail
          go_at_call 38
          refine (HOJ.out _).mono ?_
          rintro e w1 ⟨rfl, rfl⟩
          go_wp2_with fail
          simp only [Exit.jump]
          refine bodyPost_ret (v := .tuple #[.int .i64 (n : Int), .int .i64 E, .bool true]) (by simp [results, Try.results42, go_sem]) rfl ⟨by rw [HE.out]; rfl, rfl⟩
    · have g9 : decide (wrap64 (E - i) ≤ 9) = false := by rw [hsub]; exact decide_eq_false (by omega)
      have gz : (wrap64 (E - i) == 0) = false := by rw [hsub]; exact beq_eq_false_iff_ne.2 (by omega)
      have gg : decide (wrap64 (E - i) > 9) = true := by rw [hsub]; exact decide_eq_true (by omega)
      have HE := Lib.hid (num_exit_many HJ.out.1 (by omega))
      clear hsub h9 h10
      go_wp2_with fail
      simp only [Exit.jump]
      refine bodyPost_ret (v := .tuple #[.int .i64 0, .int .i64 i, .bool false]) (by simp [results, Try.results42, go_sem]) rfl ⟨by rw [HE.out]; rfl, rfl⟩
end Go.Proofs.Ytncbmdbfdjhkeaa

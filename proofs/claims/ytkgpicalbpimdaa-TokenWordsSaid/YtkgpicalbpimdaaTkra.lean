/-
  The document's place, Blank, Blanks and Number. Condition: a text of at most 2^20 bytes.
-/
import Derived.Test.YtkgpicalbpimdaaTknum
import Derived.Test.YtkgpicalbpimdaaTkup
namespace Go.Proofs.Ytkgpicalbpimdaa
open Go.RowKit Go.Deep

theorem u8_yes (c : UInt8) (n : Nat) (h : c = UInt8.ofNat n) (hn : n < 256) : (((c.toNat : Nat) : Int) == (n : Int)) = true := by
  rw [u8_test c n (UInt8.ofNat n) (by simp; omega), beq_iff_eq]; exact h
theorem u8_no (c : UInt8) (n : Nat) (h : c ≠ UInt8.ofNat n) (hn : n < 256) : (((c.toNat : Nat) : Int) == (n : Int)) = false := by
  rw [u8_test c n (UInt8.ofNat n) (by simp; omega), beq_eq_false_iff_ne]; exact h
set_option maxRecDepth 100000 in
theorem rplace_is (t : ByteArray) (i : Int) (w : World) : Calls Try.prog 26 #[.string t, .int .i64 i] w fun e w' => e = .returned (.bool (decide (0 ≤ i) && decide (i ≤ (t.size : Int)))) ∧ w' = w := by
  cases h1 : decide (0 ≤ i) with
  | false =>
    have g1 : decide (i ≥ 0) = false := h1
    clear h1
    go_enter Try.func26, Try.ntmps26
    go_wp2_with fail
    go_ret
    exact ⟨rfl, rfl⟩
  | true =>
    have g1 : decide (i ≥ 0) = true := h1
    clear h1
    go_enter Try.func26, Try.ntmps26
    go_wp2_with fail
    go_ret
    exact ⟨by simp, rfl⟩
set_option maxRecDepth 100000 in
theorem rblank_is (c : UInt8) (w : World) : Calls Try.prog 31 #[.int .u8 (c.toNat : Int)] w fun e w' => e = .returned (.bool (isBl c)) ∧ w' = w := by
  by_cases h : c = 32
  · have q1 : ((c.toNat : Int) == 32) = true := u8_yes c 32 h (by decide)
    have HE := Lib.hid (show isBl c = true by rw [h]; rfl)
    clear h
    go_enter Try.func31, Try.ntmps31
    go_wp2_with fail
    go_ret
    exact ⟨by rw [HE.out]; rfl, rfl⟩
  · have q1 : ((c.toNat : Int) == 32) = false := u8_no c 32 h (by decide)
    have HE := Lib.hid (show isBl c = (c == 9) by unfold isBl; rw [beq_eq_false_iff_ne.2 h, Bool.false_or])
    have q2 : ((c.toNat : Int) == 9) = (c == 9) := u8_test c 9 9 rfl
    obtain ⟨x, hx⟩ : ∃ x, x = (c == 9) := ⟨_, rfl⟩
    rw [← hx] at HE q2
    clear h hx
    go_enter Try.func31, Try.ntmps31
    go_wp2_with fail
    go_ret
    exact ⟨by rw [HE.out]; rfl, rfl⟩
theorem blanks_out {l : List UInt8} {i : Int} (h : ¬ (0 ≤ i ∧ i ≤ (l.length : Int))) : blanksF l i = i := by
  unfold blanksF
  split
  case isTrue h0 =>
    rw [drop_end (by omega), blk_nil]
    omega
  case isFalse => rfl
theorem blk_step {l : List UInt8} {m k : Nat} {c : UInt8} (h : m + blk (l.drop m) = k) (hc : l[m]? = some c) (hb : isBl c = true) : m + 1 + blk (l.drop (m + 1)) = k := by
  rw [drop_at hc, blk_yes hb] at h
  omega
theorem blk_last {l : List UInt8} {m k : Nat} (h : m + blk (l.drop m) = k) (hb : ∀ c, l[m]? = some c → isBl c = false) : m = k := by
  cases e : l[m]? with
  | none => rw [drop_end (by simpa using e), blk_nil] at h; omega
  | some c => rw [drop_at e, blk_no (hb c e)] at h; omega
set_option maxRecDepth 100000 in
set_option maxHeartbeats 2000000 in
theorem rblanks_is (t : ByteArray) (hz : t.size ≤ 1048576) (i : Int) (w : World) : Calls Try.prog 22 #[.string t, .int .i64 i] w fun e w' => e = .returned (.int .i64 (blanksF t.data.toList i)) ∧ w' = w := by
  have HSZ := Lib.hid (size_of (s := t) rfl)
  have HZ := Lib.hid hz
  clear hz
  have HX := Lib.hid fun (W : World) => rplace_is t i W
  by_cases hv : 0 ≤ i ∧ i ≤ (t.size : Int)
  case neg =>
    have HE := Lib.hid (blanks_out (l := t.data.toList) (i := i) (fun h => hv ⟨h.1, by rw [HSZ.out]; exact h.2⟩))
    rw [show (decide (0 ≤ i) && decide (i ≤ (t.size : Int))) = false by rw [← Bool.decide_and]; exact decide_eq_false hv] at HX
    clear hv
    go_enter Try.func22, Try.ntmps22
    go_wp2_with fail
    go_at_call 26
    refine (HX.out _).mono ?_
    rintro e w1 ⟨rfl, rfl⟩
    go_wp2_with fail
    go_loopw [1] (fun v wr => v = .int .i64 i ∧ wr = w1) (fun _ _ => 0)
    case atStart => exact ⟨rfl, rfl⟩
    case round =>
      obtain ⟨rfl, rfl⟩ := hrel
      go_wp2_with fail
      go_ret
      exact ⟨by rw [HE.out]; rfl, rfl⟩
  case pos =>
  rw [show (decide (0 ≤ i) && decide (i ≤ (t.size : Int))) = true by rw [← Bool.decide_and]; exact decide_eq_true hv] at HX
  obtain ⟨k, rfl⟩ : ∃ k : Nat, i = (k : Int) := ⟨i.toNat, by omega⟩
  obtain ⟨f, hf⟩ : ∃ f, f = k + blk (t.data.toList.drop k) := ⟨_, rfl⟩
  have hbf : blanksF t.data.toList (k : Int) = (f : Int) := by
    unfold blanksF
    rw [if_pos (by omega), Int.toNat_natCast, hf]
    omega
  rw [hbf]
  have HF := Lib.hid (And.intro hf.symm (show k ≤ t.size by omega))
  clear hv hf hbf
  go_enter Try.func22, Try.ntmps22
  go_wp2_with fail
  go_at_call 26
  refine (HX.out _).mono ?_
  rintro e w1 ⟨rfl, rfl⟩
  go_wp2_with fail
  go_loopw [1] (fun v wr => ∃ m : Nat, v = .int .i64 (m : Int) ∧ Hid (m + blk (t.data.toList.drop m) = f ∧ m ≤ t.size) ∧ wr = w1) (fun v _ => t.size + 1 - (intOf v).toNat)
  case atStart => exact ⟨k, rfl, HF, rfl⟩
  case round =>
    obtain ⟨m, rfl, HJ, rfl⟩ := hrel
    have hme := HJ.out.2
    by_cases hm : m < t.size
    · have gm : decide ((m : Int) < (t.size : Int)) = true := decide_eq_true (by omega)
      have hmi : (m : Int) < (t.size : Int) := by omega
      obtain ⟨c, hc⟩ : ∃ c, t.data.toList[m]? = some c := ⟨_, List.getElem?_eq_getElem (by simpa using hm)⟩
      have hat := at_of rfl hc
      obtain ⟨m1, hm1⟩ : ∃ m1, m1 = m + 1 := ⟨_, rfl⟩
      have hwm := addU (by have := HZ.out; omega) hm1
      have HML := Lib.hid (show t.size + 1 - m1 < t.size + 1 - m by omega)
      by_cases h1 : c = 32
      · have q1 : ((c.toNat : Int) == 32) = true := u8_yes c 32 h1 (by decide)
        have HN := Lib.hid (show m1 + blk (t.data.toList.drop m1) = f ∧ m1 ≤ t.size by rw [hm1]; exact ⟨blk_step HJ.out.1 hc (by rw [h1]; rfl), by omega⟩)
        clear hc hm1 h1 hme
        go_wp2_with fail
        exact ⟨⟨m1, rfl, HN, trivial⟩, by simpa [intOf] using HML.out⟩
      have q1 : ((c.toNat : Int) == 32) = false := u8_no c 32 h1 (by decide)
      by_cases h2 : c = 9
      · have q2 : ((c.toNat : Int) == 9) = true := u8_yes c 9 h2 (by decide)
        have HN := Lib.hid (show m1 + blk (t.data.toList.drop m1) = f ∧ m1 ≤ t.size by rw [hm1]; exact ⟨blk_step HJ.out.1 hc (by rw [h2]; rfl), by omega⟩)
        clear hc hm1 h1 h2 hme
        go_wp2_with fail
        exact ⟨⟨m1, rfl, HN, trivial⟩, by simpa [intOf] using HML.out⟩
      · have q2 : ((c.toNat : Int) == 9) = false := u8_no c 9 h2 (by decide)
        have HE := Lib.hid (blk_last HJ.out.1 (fun c' hc' => by rw [hc] at hc'; injection hc' with hc'; rw [← hc']; unfold isBl; rw [beq_eq_false_iff_ne.2 h1, beq_eq_false_iff_ne.2 h2]; rfl))
        clear hc hm1 h1 h2 hme
        go_wp2_with fail
        go_ret
        exact ⟨by rw [HE.out]; rfl, rfl⟩
    · have gm : decide ((m : Int) < (t.size : Int)) = false := decide_eq_false (by omega)
      have gmn : decide (m < t.size) = false := decide_eq_false hm
      have hge : (t.size : Int) ≤ (m : Int) := by omega
      have HE := Lib.hid (blk_last HJ.out.1 (fun c' hc' => by
        have h1 := (List.getElem?_eq_some_iff.1 hc').1
        rw [← HSZ.out] at h1
        exact absurd h1 hm))
      clear hm hme
      go_wp2_with fail
      go_ret
      exact ⟨by rw [HE.out]; rfl, rfl⟩
end Go.Proofs.Ytkgpicalbpimdaa

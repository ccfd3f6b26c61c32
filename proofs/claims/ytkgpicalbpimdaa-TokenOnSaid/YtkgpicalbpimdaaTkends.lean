/-
  The law's ends: a text without a line feed, with no blank at its ends. Condition: such a text, of at most 2^20 bytes.
-/
import Derived.Test.YtkgpicalbpimdaaTkra
import Derived.Test.YtkgpicalbpimdaaTklin
namespace Go.Proofs.Ytkgpicalbpimdaa
open Go.RowKit Go.Deep

/-- A text without a line feed, with no blank at its ends. -/
def Neat (l : List UInt8) : Prop := (∀ c ∈ l, c ≠ 10) ∧ (∀ c, l[0]? = some c → isBl c = false) ∧ (∀ c, l.getLast? = some c → isBl c = false)
set_option maxRecDepth 100000 in
set_option maxHeartbeats 2000000 in
theorem ends_is (t : ByteArray) (hz : t.size ≤ 1048576) (h : Neat t.data.toList) (w : World) : Calls Try.prog 24 #[.string t] w fun e w' => e = .returned (.bool true) ∧ w' = w := by
  have HSZ := Lib.hid (size_of (s := t) rfl)
  have HZ := Lib.hid hz
  have HNT := Lib.hid h
  clear hz h
  go_enter Try.func24, Try.ntmps24
  go_wp2_with fail
  go_loopw [3] (fun v wz => ∃ m : Nat, v = .int .i64 (m : Int) ∧ Hid (m ≤ t.size) ∧ wz = w) (fun v _ => t.size + 1 - (intOf v).toNat)
  case atStart => exact ⟨0, rfl, Lib.hid (by omega), rfl⟩
  case round =>
    obtain ⟨m, rfl, HJ, rfl⟩ := hrel
    by_cases hm : m < t.size
    case pos =>
      have gm : decide ((m : Int) < (t.size : Int)) = true := decide_eq_true (by omega)
      have hmi : (m : Int) < (t.size : Int) := by omega
      obtain ⟨c, hc⟩ : ∃ c, t.data.toList[m]? = some c := ⟨_, List.getElem?_eq_getElem (by simpa using hm)⟩
      have hat := at_of rfl hc
      obtain ⟨m1, hm1⟩ : ∃ m1, m1 = m + 1 := ⟨_, rfl⟩
      have HWM := Lib.hid (addU (by have := HZ.out; omega) hm1)
      have HML := Lib.hid (show t.size + 1 - m1 < t.size + 1 - m by omega)
      have HN := Lib.hid (show m1 ≤ t.size by omega)
      have q1 : ((c.toNat : Int) == 10) = false := u8_no c 10 (HNT.out.1 c (List.mem_iff_getElem?.2 ⟨m, hc⟩)) (by decide)
      have hwm := HWM.out
      clear hc hm1
      go_wp2_with fail
      exact ⟨⟨m1, rfl, HN, trivial⟩, by simpa [intOf] using HML.out⟩
    case neg =>
      have gm : decide ((m : Int) < (t.size : Int)) = false := decide_eq_false (by omega)
      have gmn : decide (m < t.size) = false := decide_eq_false hm
      have hge : (t.size : Int) ≤ (m : Int) := by omega
      by_cases h0 : t.size = 0
      case pos =>
        have g0 : ((t.size : Int) == 0) = true := by rw [h0]; rfl
        have g0n : (t.size == 0) = true := by rw [h0]; rfl
        clear hm
        go_wp2_with fail
        go_ret
        exact ⟨rfl, rfl⟩
      case neg =>
        have g0 : ((t.size : Int) == 0) = false := by rw [beq_eq_false_iff_ne]; omega
        have hpos : 0 < t.size := by omega
        have hposi : (0 : Int) < (t.size : Int) := by omega
        obtain ⟨k, hk⟩ : ∃ k, t.size = k + 1 := ⟨t.size - 1, by omega⟩
        have hwk : IntKind.i64.wrap ((t.size : Int) - 1) = (k : Int) := by
          have := HZ.out
          rw [IntWalk.i64_in ((t.size : Int) - 1) (by omega)]; omega
        have hkt : k < t.size := by omega
        have hkti : (k : Int) < (t.size : Int) := by omega
        obtain ⟨c, hc⟩ : ∃ c, t.data.toList[0]? = some c := ⟨_, List.getElem?_eq_getElem (by rw [← HSZ.out]; exact hpos)⟩
        obtain ⟨d, hd⟩ : ∃ d, t.data.toList[k]? = some d := ⟨_, List.getElem?_eq_getElem (by rw [← HSZ.out]; exact hkt)⟩
        have hat := at_of rfl hc
        have hat1 := at_of rfl hd
        have HB1 := Lib.hid fun (W : World) => rblank_is c W
        have HB2 := Lib.hid fun (W : World) => rblank_is d W
        rw [HNT.out.2.1 c hc] at HB1
        rw [HNT.out.2.2 d (by rw [List.getLast?_eq_getElem?, ← HSZ.out, hk]; exact hd)] at HB2
        have HWK := Lib.hid hwk
        clear hm hc hd hk h0 hwk
        have hwk := HWK.out
        go_wp2_with fail
        go_at_call 31
        refine (HB1.out _).mono ?_
        rintro e wa ⟨rfl, rfl⟩
        go_wp2_with fail
        go_at_call 31
        refine (HB2.out _).mono ?_
        rintro e wb ⟨rfl, rfl⟩
        go_wp2_with fail
        go_ret
        exact ⟨rfl, rfl⟩
/-- What upTo answers is neat, where line feeds end it. -/
theorem up_neat {st : UInt8 → Bool} (h10 : st 10 = true) (l : List UInt8) (i : Int) : Neat (upF st l i).1 := by
  unfold upF
  split
  case isFalse => exact ⟨by simp, by simp, by simp⟩
  case isTrue h =>
  simp only []
  obtain ⟨f, hf⟩ : ∃ f, f = i.toNat + blk (l.drop i.toNat) := ⟨_, rfl⟩
  rw [← hf]
  refine ⟨fun c hc => ?_, fun c hc => ?_, fun c hc => trim_ends _ c hc⟩
  · rw [trim_take] at hc
    have hc2 := List.mem_of_mem_take hc
    have := List.all_takeWhile (p := fun c => !st c) (l := l.drop f)
    rw [List.all_eq_true] at this
    have h2 := this c hc2
    intro e
    subst e
    rw [h10] at h2
    cases h2
  · rw [trim_take, List.getElem?_take] at hc
    split at hc
    case isFalse => cases hc
    case isTrue =>
      rw [wrd_take, List.getElem?_take] at hc
      split at hc
      case isFalse => cases hc
      case isTrue =>
        rw [List.getElem?_drop, Nat.add_zero, hf, ← List.getElem?_drop] at hc
        exact blk_ends _ c hc
theorem wrd_ends {st : UInt8 → Bool} (l : List UInt8) (c : UInt8) (h : l[(wrd st l).length]? = some c) : st c = true := by
  induction l with
  | nil => simp at h
  | cons a r ih =>
    cases ha : st a with
    | true => rw [wrd_stop ha] at h; simp at h; rw [← h]; exact ha
    | false => rw [wrd_go ha, List.length_cons, List.getElem?_cons_succ] at h; exact ih h
theorem up_len (st : UInt8 → Bool) (l : List UInt8) (i : Int) : (upF st l i).1.length ≤ l.length := by
  unfold upF
  split
  · refine Nat.le_trans (trim_le _) (Nat.le_trans (wrd_le st _) ?_)
    rw [List.length_drop]
    omega
  · simp
theorem up_bounds {st : UInt8 → Bool} {l : List UInt8} {k : Nat} (h : k ≤ l.length) : ∃ p : Nat, (upF st l (k : Int)).2 = (p : Int) ∧ k ≤ p ∧ p ≤ l.length ∧ p = k + blk (l.drop k) + (wrd st (l.drop (k + blk (l.drop k)))).length ∧ (p = l.length ∨ ∃ c, l[p]? = some c ∧ st c = true) := by
  unfold upF
  rw [if_pos ⟨by omega, by omega⟩, Int.toNat_natCast]
  obtain ⟨f, hf⟩ : ∃ f, f = k + blk (l.drop k) := ⟨_, rfl⟩
  have h1 := blk_le (l.drop k)
  rw [List.length_drop] at h1
  have h2 := wrd_le st (l.drop f)
  rw [List.length_drop] at h2
  rw [← hf]
  refine ⟨f + (wrd st (l.drop f)).length, by simp only []; omega, by omega, by omega, rfl, ?_⟩
  cases e : l[f + (wrd st (l.drop f)).length]? with
  | none => rw [List.getElem?_eq_none_iff] at e; exact .inl (by omega)
  | some c =>
    refine .inr ⟨c, rfl, ?_⟩
    rw [← List.getElem?_drop] at e
    exact wrd_ends _ c e
theorem up_order {l : List UInt8} {k : Nat} : (wrd endW (l.drop (k + blk (l.drop k)))).length ≤ (wrd endR (l.drop (k + blk (l.drop k)))).length := by
  obtain ⟨m, hm⟩ : ∃ m, m = l.drop (k + blk (l.drop k)) := ⟨_, rfl⟩
  rw [← hm]
  clear hm
  induction m with
  | nil => simp [wrd_nil]
  | cons c r ih =>
    cases h : endW c with
    | true => rw [wrd_stop h]; simp
    | false =>
      have h2 : endR c = false := by
        unfold endW at h
        unfold endR
        simp only [List.contains, List.elem] at h ⊢
        cases e : c == 10 with
        | true => rw [e] at h; cases h
        | false => rfl
      rw [wrd_go h, wrd_go h2]
      simpa using ih
end Go.Proofs.Ytkgpicalbpimdaa

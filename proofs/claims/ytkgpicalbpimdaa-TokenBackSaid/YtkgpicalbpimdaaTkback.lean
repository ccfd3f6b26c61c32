/-
  TokenBack: it returns true and turns nothing that was there. No condition.
-/
import Derived.Test.YtkgpicalbpimdaaTkesc
namespace Go.Proofs.Ytkgpicalbpimdaa
open Go.RowKit Go.Deep

structure WantJ (l : List UInt8) (w wr : World) (m : Nat) (S : ByteArray) : Prop where
  le : m ≤ l.length
  str : S = txt (wantB (l.take m))
  below : Below w.heap.size w wr
theorem WantJ.size {l : List UInt8} {w wr : World} {m : Nat} {S : ByteArray} (h : WantJ l w wr m S) (hl : l.length ≤ 300) : S.size ≤ 600 := by
  rw [h.str, size_txt]
  have := want_le (l.take m)
  rw [List.length_take] at this
  omega
theorem back_long {s r : ByteArray} {d : UInt8} (h1 : s.size ≤ 300) (h2 : r.size ≤ 300) : (txt (esc d s.data.toList) ++ ⟨#[d]⟩ ++ r).size ≤ 901 ∧ (txt (esc d s.data.toList) ++ ⟨#[d]⟩).size ≤ 601 ∧ (txt (esc d s.data.toList)).size ≤ 600 := by
  have h := esc_le d s.data.toList
  have e := size_of (s := s) rfl
  have er := size_of (s := r) rfl
  rw [show r = txt r.data.toList from (txt_of r).symm, show (⟨#[d]⟩ : ByteArray) = txt [d] from rfl, txt_append, txt_append, size_txt, size_txt, size_txt, List.length_append, List.length_append]
  simp only [List.length_cons, List.length_nil]
  omega
set_option maxRecDepth 100000 in
set_option maxHeartbeats 8000000 in
theorem back_walk (s : ByteArray) (d : UInt8) (r : ByteArray) (w : World) : Calls Try.prog 5 #[.string s, .int .u8 (d.toNat : Int), .string r] w (Alv w) := by
  have HAL := Lib.hid fun (W : World) => alive_is W
  unfold Alv at HAL ⊢
  by_cases hz : s.size ≤ 300
  case neg =>
    have g : decide ((s.size : Int) > 300) = true := decide_eq_true (by omega)
    have gn : decide (300 < s.size) = true := decide_eq_true (by omega)
    clear hz
    go_enter Try.func5, Try.ntmps5
    go_wp2_with fail
    go_at_call 10
    refine (HAL.out _).mono ?_
    rintro e w1 ⟨rfl, hb⟩
    have HB := Lib.hid hb
    clear hb
    go_wp2_with fail
    go_ret
    exact ⟨rfl, HB.out⟩
  case pos =>
  have gs : decide ((s.size : Int) > 300) = false := decide_eq_false (by omega)
  have gsn : decide (300 < s.size) = false := decide_eq_false (by omega)
  have gsi : (s.size : Int) ≤ 300 := by omega
  by_cases hr : r.size ≤ 300
  case neg =>
    have g : decide ((r.size : Int) > 300) = true := decide_eq_true (by omega)
    have gn : decide (300 < r.size) = true := decide_eq_true (by omega)
    clear hz hr
    go_enter Try.func5, Try.ntmps5
    go_wp2_with fail
    go_at_call 10
    refine (HAL.out _).mono ?_
    rintro e w1 ⟨rfl, hb⟩
    have HB := Lib.hid hb
    clear hb
    go_wp2_with fail
    go_ret
    exact ⟨rfl, HB.out⟩
  case pos =>
  have gr : decide ((r.size : Int) > 300) = false := decide_eq_false (by omega)
  have grn : decide (300 < r.size) = false := decide_eq_false (by omega)
  have gri : (r.size : Int) ≤ 300 := by omega
  by_cases h10 : d = 10
  · have g10 : ((d.toNat : Int) == 10) = true := u8_yes d 10 h10 (by decide)
    clear hz hr h10
    go_enter Try.func5, Try.ntmps5
    go_wp2_with fail
    go_at_call 10
    refine (HAL.out _).mono ?_
    rintro e w1 ⟨rfl, hb⟩
    have HB := Lib.hid hb
    clear hb
    go_wp2_with fail
    go_ret
    exact ⟨rfl, HB.out⟩
  have g10 : ((d.toNat : Int) == 10) = false := u8_no d 10 h10 (by decide)
  by_cases h92 : d = 92
  · have g92 : ((d.toNat : Int) == 92) = true := u8_yes d 92 h92 (by decide)
    clear hz hr h10 h92
    go_enter Try.func5, Try.ntmps5
    go_wp2_with fail
    go_at_call 10
    refine (HAL.out _).mono ?_
    rintro e w1 ⟨rfl, hb⟩
    have HB := Lib.hid hb
    clear hb
    go_wp2_with fail
    go_ret
    exact ⟨rfl, HB.out⟩
  have g92 : ((d.toNat : Int) == 92) = false := u8_no d 92 h92 (by decide)
  have HES := Lib.hid fun (W : World) => escaped_is s (by omega) d W
  obtain ⟨hl1, hl2, hl3⟩ := back_long (d := d) hz hr
  have HC1 := Lib.hid fun (W : World) => cut_is (txt (esc d s.data.toList) ++ ⟨#[d]⟩ ++ r) (by omega) 0 d true W
  have HC2 := Lib.hid fun (W : World) => cut_is (txt (esc d s.data.toList)) (by omega) 0 d true W
  rw [show (txt (esc d s.data.toList) ++ ⟨#[d]⟩ ++ r).data.toList = esc d s.data.toList ++ [d] ++ r.data.toList by
    rw [show r = txt r.data.toList from (txt_of r).symm, show (⟨#[d]⟩ : ByteArray) = txt [d] from rfl, txt_append, txt_append]; simp [txt], cut_esc_end h10 h92] at HC1
  rw [show (txt (esc d s.data.toList)).data.toList = esc d s.data.toList by simp [txt], cut_esc_none h10 h92] at HC2
  have hEs : (esc d s.data.toList).length = (txt (esc d s.data.toList)).size := (size_txt _).symm
  rw [hEs] at HC1
  clear hEs
  have HCD := Lib.hid fun (W : World) => run_one d W
  obtain ⟨E, hE⟩ : ∃ E, E = txt (esc d s.data.toList) := ⟨_, rfl⟩
  rw [← hE] at HES HC1 HC2 hl1 hl2 hl3
  obtain ⟨X, hX⟩ : ∃ X, X = txt (wantB s.data.toList) := ⟨_, rfl⟩
  unfold CutAns at HC1 HC2
  simp only [CutV] at HC1 HC2
  rw [← hX, show ((E.size + 1 : Nat) : Int) = (E.size : Int) + 1 from rfl] at HC1
  have HXX := Lib.hid hX
  have HSZ := Lib.hid (size_of (s := s) rfl)
  have HZ := Lib.hid hz
  have HCV := Lib.hid (show ∀ W : World, (convert 37 9 (.slice (some ⟨W.heap.size, 0, none⟩) 1 1)).run Try.prog (W.alloc (.cells #[.int .u8 92] 5)) = .ok (.string ⟨#[92]⟩) (W.alloc (.cells #[.int .u8 92] 5)) from fun W => run_one 92 W)
  clear hE hX h10 h92 hz
  go_enter Try.func5, Try.ntmps5
  go_wp2_with fail
  go_at_call 23
  refine (HES.out _).mono ?_
  rintro e w1 ⟨rfl, hb⟩
  have HB0 := Lib.hid hb
  clear hb gs gsn gsi gr grn gri g10 g92
  go_wp2_with fail
  go_loopw [8, 9] (fun x v wz => ∃ (m : Nat) (S : ByteArray), v = .int .i64 (m : Int) ∧ x = .string S ∧ Hid (WantJ s.data.toList w wz m S)) (fun _ v _ => s.size + 1 - (intOf v).toNat)
  case atStart => exact ⟨0, _, rfl, rfl, Lib.hid ⟨by omega, by simp [wantB]; rfl, HB0.out⟩⟩
  case round =>
    obtain ⟨m, S, rfl, rfl, HJ⟩ := hrel
    have hSS := HJ.out.size (by rw [← HSZ.out]; exact HZ.out)
    by_cases hm : m < s.size
    case neg =>
      have gm : decide ((m : Int) < (s.size : Int)) = false := decide_eq_false (by omega)
      have gmn : decide (m < s.size) = false := decide_eq_false hm
      have hge : (s.size : Int) ≤ (m : Int) := by omega
      have hSX : S = X := by rw [HJ.out.str, HXX.out, List.take_of_length_le (by rw [← HSZ.out]; omega)]
      have HB0 := Lib.hid HJ.out.below
      clear hm HJ
      subst hSX
      have hcv := HCD.out wr
      go_upto_region 12 with fail
      have HB1 := Lib.hid (HB0.out.alloc HB0.out.size (.cells #[.int .u8 (d.toNat : Int)] 5))
      obtain ⟨wq, hwq⟩ : ∃ wq, wq = wr.alloc (.cells #[.int .u8 (d.toNat : Int)] 5) := ⟨_, rfl⟩
      rw [← hwq] at HB1 ⊢
      clear hcv hwq gm gmn hge
      go_wp2_with fail
      go_at_call 11
      refine (HC1.out _).mono ?_
      rintro e w2 ⟨rfl, hb⟩
      have HB2 := Lib.hid (HB1.out.trans (hb.mono HB1.out.size))
      clear hb
      go_wp2_with fail
      go_at_call 11
      refine (HC2.out _).mono ?_
      rintro e w3 ⟨rfl, hb⟩
      have HB3 := Lib.hid (HB2.out.trans (hb.mono HB2.out.size))
      clear hb
      go_wp2_with fail
      go_at_call 10
      refine (HAL.out _).mono ?_
      rintro e w4 ⟨rfl, hb⟩
      have HB4 := Lib.hid (HB3.out.trans (hb.mono HB3.out.size))
      clear hb
      go_wp2_with fail
      go_ret
      exact ⟨by simp, HB4.out⟩
    case pos =>
    have gm : decide ((m : Int) < (s.size : Int)) = true := decide_eq_true (by omega)
    have hmi : (m : Int) < (s.size : Int) := by omega
    obtain ⟨c, hc⟩ : ∃ c, s.data.toList[m]? = some c := ⟨_, List.getElem?_eq_getElem (by simpa using hm)⟩
    have hat := at_of rfl hc
    obtain ⟨m1, hm1⟩ : ∃ m1, m1 = m + 1 := ⟨_, rfl⟩
    have HWM := Lib.hid (addU (by have := HZ.out; omega) hm1)
    have HML := Lib.hid (show s.size + 1 - m1 < s.size + 1 - m by omega)
    have hsl := fun W => one_slice hc hm1 W
    obtain ⟨Y, hY⟩ : ∃ Y, Y = txt [c] := ⟨_, rfl⟩
    rw [← hY] at hsl
    have hYs : Y.size ≤ 1 := by rw [hY, size_txt]; simp
    have hcv := HCV.out wr
    have hs2 : (S ++ (⟨#[92]⟩ : ByteArray)).size ≤ 601 := by
      rw [HJ.out.str, size_txt] at hSS
      rw [HJ.out.str, show (⟨#[92]⟩ : ByteArray) = txt [92] from rfl, txt_append, size_txt, List.length_append]
      simp only [List.length_cons, List.length_nil]; omega
    have HYY := Lib.hid (fun (h : c = 92 ∨ c = 10) => show ∀ wz, Below w.heap.size w wz → WantJ s.data.toList w wz m1 (S ++ ⟨#[92]⟩ ++ Y) from fun wz hb => ⟨by rw [← HSZ.out]; omega, by
      rw [hm1, want_take hc, HJ.out.str, hY, show (⟨#[92]⟩ : ByteArray) = txt [92] from rfl, txt_append, txt_append, List.append_assoc, show wantC c = [92, c] from if_pos h]; rfl, hb⟩)
    have HNN := Lib.hid (fun (h : ¬ (c = 92 ∨ c = 10)) => show ∀ wz, Below w.heap.size w wz → WantJ s.data.toList w wz m1 (S ++ Y) from fun wz hb => ⟨by rw [← HSZ.out]; omega, by
      rw [hm1, want_take hc, HJ.out.str, hY, txt_append, show wantC c = [c] from if_neg h], hb⟩)
    by_cases h2 : c = 92
    · have q2 : ((c.toNat : Int) == 92) = true := u8_yes c 92 h2 (by decide)
      have HF := Lib.hid (HYY.out (.inl h2))
      have hwm := HWM.out
      clear hc h2 hm1 hY
      go_wp2_with fail
      exact ⟨⟨m1, _, rfl, rfl, Lib.hid (HF.out _ (HJ.out.below.alloc HJ.out.below.size _))⟩, by simpa [intOf] using HML.out⟩
    have q2 : ((c.toNat : Int) == 92) = false := u8_no c 92 h2 (by decide)
    by_cases h3 : c = 10
    · have q3 : ((c.toNat : Int) == 10) = true := u8_yes c 10 h3 (by decide)
      have HF := Lib.hid (HYY.out (.inr h3))
      have hwm := HWM.out
      clear hc h2 h3 hm1 hY
      go_wp2_with fail
      exact ⟨⟨m1, _, rfl, rfl, Lib.hid (HF.out _ (HJ.out.below.alloc HJ.out.below.size _))⟩, by simpa [intOf] using HML.out⟩
    · have q3 : ((c.toNat : Int) == 10) = false := u8_no c 10 h3 (by decide)
      have HF := Lib.hid (HNN.out (by intro h; rcases h with h | h; exact h2 h; exact h3 h))
      have hwm := HWM.out
      clear hc h2 h3 hm1 hY hs2 hcv
      go_wp2_with fail
      exact ⟨⟨m1, _, rfl, rfl, Lib.hid (HF.out _ HJ.out.below)⟩, by simpa [intOf] using HML.out⟩
end Go.Proofs.Ytkgpicalbpimdaa

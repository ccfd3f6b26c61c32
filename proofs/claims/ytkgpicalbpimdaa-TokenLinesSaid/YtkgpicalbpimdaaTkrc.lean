/-
  The document's Cut. Condition: a text of at most 2^20 bytes.
-/
import Derived.Test.YtkgpicalbpimdaaTkrl
import Derived.Test.YtkgpicalbpimdaaTkcut
namespace Go.Proofs.Ytkgpicalbpimdaa
open Go.RowKit Go.Deep

/-- What holds where a round begins. -/
structure RcJ (d : UInt8) (ln : Bool) (l : List UInt8) (r : Option (List UInt8 × Nat)) (w wr : World) (m : Nat) (b : List UInt8) (S : ByteArray) : Prop where
  eq : cutAt d ln l m b = r
  le : m ≤ l.length
  len : b.length ≤ 2 * m
  str : S = txt b
  below : Below w.heap.size w wr
set_option maxRecDepth 100000 in
set_option maxHeartbeats 8000000 in
theorem rcut_is (t : ByteArray) (hz : t.size ≤ 1048576) (i : Int) (d : UInt8) (ln : Bool) (w : World) : Calls Try.prog 12 #[.string t, .int .i64 i, .int .u8 (d.toNat : Int), .bool ln] w (CutAns (cutG d ln t.data.toList i) w) := by
  have HSZ := Lib.hid (size_of (s := t) rfl)
  have HZ := Lib.hid hz
  clear hz
  have HX := Lib.hid fun (W : World) => rplace_is t i W
  have HCV := Lib.hid (show ∀ W : World, (convert 37 9 (.slice (some ⟨W.heap.size, 0, none⟩) 1 1)).run Try.prog (W.alloc (.cells #[.int .u8 92] 5)) = .ok (.string ⟨#[92]⟩) (W.alloc (.cells #[.int .u8 92] 5)) from fun W => run_one 92 W)
  unfold CutAns
  by_cases hv : 0 ≤ i ∧ i ≤ (t.size : Int)
  case neg =>
    have HB := Lib.hid (cutG_bad (d := d) (ln := ln) (l := t.data.toList) (i := i) (fun h => hv ⟨h.1, by rw [HSZ.out]; exact h.2.1⟩))
    rw [show (decide (0 ≤ i) && decide (i ≤ (t.size : Int))) = false by rw [← Bool.decide_and]; exact decide_eq_false hv] at HX
    clear hv HCV
    go_enter Try.func12, Try.ntmps12
    go_wp2_with fail
    go_at_call 26
    refine (HX.out _).mono ?_
    rintro e w1 ⟨rfl, rfl⟩
    go_wp2_with fail
    refine bodyPost_ret (v := .tuple #[.string ⟨#[]⟩, .int .i64 0, .int .i64 121]) (by simp [results, Try.results12, go_sem]) rfl ⟨by rw [HB.out]; rfl, Below.refl _ _⟩
  case pos =>
  rw [show (decide (0 ≤ i) && decide (i ≤ (t.size : Int))) = true by rw [← Bool.decide_and]; exact decide_eq_true hv] at HX
  by_cases h10 : d = 10
  · have HB := Lib.hid (cutG_bad (d := d) (ln := ln) (l := t.data.toList) (i := i) (fun h => h.2.2.1 h10))
    have g10 : ((d.toNat : Int) == 10) = true := u8_yes d 10 h10 (by decide)
    clear hv HCV h10
    go_enter Try.func12, Try.ntmps12
    go_wp2_with fail
    go_at_call 26
    refine (HX.out _).mono ?_
    rintro e w1 ⟨rfl, rfl⟩
    go_wp2_with fail
    refine bodyPost_ret (v := .tuple #[.string ⟨#[]⟩, .int .i64 0, .int .i64 121]) (by simp [results, Try.results12, go_sem]) rfl ⟨by rw [HB.out]; rfl, Below.refl _ _⟩
  have g10 : ((d.toNat : Int) == 10) = false := u8_no d 10 h10 (by decide)
  by_cases h92 : d = 92
  · have HB := Lib.hid (cutG_bad (d := d) (ln := ln) (l := t.data.toList) (i := i) (fun h => h.2.2.2 h92))
    have g92 : ((d.toNat : Int) == 92) = true := u8_yes d 92 h92 (by decide)
    clear hv HCV h10 h92
    go_enter Try.func12, Try.ntmps12
    go_wp2_with fail
    go_at_call 26
    refine (HX.out _).mono ?_
    rintro e w1 ⟨rfl, rfl⟩
    go_wp2_with fail
    refine bodyPost_ret (v := .tuple #[.string ⟨#[]⟩, .int .i64 0, .int .i64 121]) (by simp [results, Try.results12, go_sem]) rfl ⟨by rw [HB.out]; rfl, Below.refl _ _⟩
  have g92 : ((d.toNat : Int) == 92) = false := u8_no d 92 h92 (by decide)
  obtain ⟨k, rfl⟩ : ∃ k : Nat, i = (k : Int) := ⟨i.toNat, by omega⟩
  obtain ⟨r, hr⟩ : ∃ r, r = cutG d ln t.data.toList (k : Int) := ⟨_, rfl⟩
  rw [← hr]
  have HS := Lib.hid (show RcJ d ln t.data.toList r w w k [] ⟨#[]⟩ from ⟨by
    rw [hr]; unfold cutG; rw [if_pos ⟨by omega, by rw [← HSZ.out]; exact hv.2, h10, h92⟩]; simp, by rw [← HSZ.out]; omega, by simp, rfl, Below.refl _ _⟩)
  have HD := Lib.hid (And.intro h10 h92)
  clear hr hv h10 h92
  go_enter Try.func12, Try.ntmps12
  go_wp2_with fail
  go_at_call 26
  refine (HX.out _).mono ?_
  rintro e w1 ⟨rfl, rfl⟩
  go_wp2_with fail
  go_loopw [12, 13, 14] (fun x v _ wz => ∃ (m : Nat) (S : ByteArray) (b : List UInt8), v = .int .i64 (m : Int) ∧ x = .string S ∧ Hid (RcJ d ln t.data.toList r w1 wz m b S)) (fun _ v _ _ => t.size + 1 - (intOf v).toNat)
  case atStart => exact ⟨k, _, [], rfl, rfl, HS⟩
  case round =>
    obtain ⟨m, S, b, rfl, rfl, HJ⟩ := hrel
    clear HX g10 g92 HS
    have hSS : S.size ≤ 2097152 := by rw [HJ.out.str, size_txt]; have := HJ.out.len; have := HJ.out.le; have := HZ.out; have := HSZ.out; omega
    by_cases hm : m < t.size
    case neg =>
      have gm : decide ((m : Int) < (t.size : Int)) = false := decide_eq_false (by omega)
      have gmn : decide (m < t.size) = false := decide_eq_false hm
      have hge : (t.size : Int) ≤ (m : Int) := by omega
      have HE := Lib.hid (show r = none by rw [← HJ.out.eq]; exact cutAt_end (by rw [← HSZ.out]; omega))
      clear hm
      go_wp2_with fail
      refine bodyPost_ret (v := .tuple #[.string ⟨#[]⟩, .int .i64 0, .int .i64 121]) (by simp [results, Try.results12, go_sem]) rfl ⟨by rw [HE.out]; rfl, HJ.out.below⟩
    case pos =>
    have gm : decide ((m : Int) < (t.size : Int)) = true := decide_eq_true (by omega)
    have hmi : (m : Int) < (t.size : Int) := by omega
    obtain ⟨c, hc⟩ : ∃ c, t.data.toList[m]? = some c := ⟨_, List.getElem?_eq_getElem (by simpa using hm)⟩
    have hat := at_of rfl hc
    obtain ⟨m1, hm1⟩ : ∃ m1, m1 = m + 1 := ⟨_, rfl⟩
    have HWM := Lib.hid (addU (by have := HZ.out; omega) hm1)
    have HML := Lib.hid (show t.size + 1 - m1 < t.size + 1 - m by omega)
    by_cases h1 : c = d
    · have q1 : ((c.toNat : Int) == (d.toNat : Int)) = true := by rw [u8_same]; exact decide_eq_true h1
      have HE := Lib.hid (show r = some (b, m1) by rw [← HJ.out.eq, hm1]; exact cutAt_delim HD.out.1 (by rw [hc, h1]))
      have hwm := HWM.out
      clear hc h1 hm1
      go_wp2_with fail
      refine bodyPost_ret (v := .tuple #[.string S, .int .i64 (m1 : Int), .int .i64 0]) (by simp [results, Try.results12, go_sem]) rfl ⟨by rw [HE.out, HJ.out.str]; rfl, HJ.out.below⟩
    have q1 : ((c.toNat : Int) == (d.toNat : Int)) = false := by rw [u8_same]; exact decide_eq_false h1
    by_cases h2 : c = 10
    · have q2 : ((c.toNat : Int) == 10) = true := u8_yes c 10 h2 (by decide)
      have HE := Lib.hid (show r = none by rw [← HJ.out.eq]; exact cutAt_feed (by rw [hc, h2]))
      clear hc h1 h2 hm1
      go_wp2_with fail
      refine bodyPost_ret (v := .tuple #[.string ⟨#[]⟩, .int .i64 0, .int .i64 121]) (by simp [results, Try.results12, go_sem]) rfl ⟨by rw [HE.out]; rfl, HJ.out.below⟩
    have q2 : ((c.toNat : Int) == 10) = false := u8_no c 10 h2 (by decide)
    by_cases h3 : c = 92
    case neg =>
      have q3 : ((c.toNat : Int) != 92) = true := u8_nno c 92 h3 (by decide)
      have hsl := fun W => one_slice hc hm1 W
      obtain ⟨X, hX⟩ : ∃ X, X = txt [c] := ⟨_, rfl⟩
      rw [← hX] at hsl
      have hXs : X.size ≤ 1 := by rw [hX, size_txt]; simp
      have HN := Lib.hid (show ∀ wz, Below w1.heap.size w1 wz → RcJ d ln t.data.toList r w1 wz m1 (b ++ [c]) (S ++ X) from fun wz hb => ⟨by rw [← HJ.out.eq, hm1]; exact (cutAt_other hc h2 h1 h3).symm, by rw [← HSZ.out]; omega, by have := HJ.out.len; simp only [List.length_append, List.length_cons, List.length_nil]; omega, by rw [HJ.out.str, hX, txt_append], hb⟩)
      have hwm := HWM.out
      clear hc h1 h2 h3 hm1 hX
      go_wp2_with fail
      exact ⟨⟨m1, _, b ++ [c], rfl, rfl, Lib.hid (HN.out _ HJ.out.below)⟩, by simpa [intOf] using HML.out⟩
    case pos =>
    have q3 : ((c.toNat : Int) != 92) = false := u8_nyes c 92 h3 (by decide)
    have hc9 : t.data.toList[m]? = some 92 := by rw [hc, h3]
    by_cases hm2 : m1 = t.size
    · have gm1 : ((m1 : Int) == (t.size : Int)) = true := by rw [hm2, beq_self_eq_true]
      have HE := Lib.hid (show r = none by rw [← HJ.out.eq]; exact cutAt_back_end HD.out.2 hc9 (by rw [← HSZ.out]; omega))
      have hwm := HWM.out
      clear hc h1 h2 h3 hm1 hc9 hm2
      go_wp2_with fail
      refine bodyPost_ret (v := .tuple #[.string ⟨#[]⟩, .int .i64 0, .int .i64 121]) (by simp [results, Try.results12, go_sem]) rfl ⟨by rw [HE.out]; rfl, HJ.out.below⟩
    have gm1 : ((m1 : Int) == (t.size : Int)) = false := by rw [beq_eq_false_iff_ne]; omega
    have hlt1 : m1 < t.size := by omega
    have hlt1i : (m1 : Int) < (t.size : Int) := by omega
    obtain ⟨x, hx⟩ : ∃ x, t.data.toList[m1]? = some x := ⟨_, List.getElem?_eq_getElem (by simpa using hlt1)⟩
    have hat1 := at_of rfl hx
    obtain ⟨m2, hm3⟩ : ∃ m2, m2 = m1 + 1 := ⟨_, rfl⟩
    have HWM1 := Lib.hid (addU (by have := HZ.out; omega) hm3)
    have HML2 := Lib.hid (show t.size + 1 - m2 < t.size + 1 - m by omega)
    by_cases hf : x = 10 ∧ ln = false
    · obtain ⟨hx10, rfl⟩ := hf
      have q4 : ((x.toNat : Int) == 10) = true := u8_yes x 10 hx10 (by decide)
      have HE := Lib.hid (show r = none by rw [← HJ.out.eq]; exact cutAt_back_feed HD.out.2 hc9 (by rw [← hm1, hx, hx10]))
      have hwm := HWM.out
      clear hc h1 h2 h3 hm1 hm2 hc9 hm3 hx hx10
      go_wp2_with fail
      refine bodyPost_ret (v := .tuple #[.string ⟨#[]⟩, .int .i64 0, .int .i64 121]) (by simp [results, Try.results12, go_sem]) rfl ⟨by rw [HE.out]; rfl, HJ.out.below⟩
    have hst := cutAt_back HD.out.2 (b := b) hc9 (by rw [← hm1]; exact hx) hf
    rw [show m + 2 = m2 by omega, HJ.out.eq] at hst
    have hsl := fun W => one_slice hx hm3 W
    obtain ⟨X, hX⟩ : ∃ X, X = txt [x] := ⟨_, rfl⟩
    rw [← hX] at hsl
    have hXs : X.size ≤ 1 := by rw [hX, size_txt]; simp
    have HL2 := Lib.hid (show b.length + 2 ≤ 2 * m2 ∧ m2 ≤ t.data.toList.length by have := HJ.out.len; rw [← HSZ.out]; omega)
    by_cases hxd : x = d
    · have q5 : ((x.toNat : Int) != (d.toNat : Int)) = false := by rw [bne, u8_same]; simp [hxd]
      rw [if_pos hxd] at hst
      have HN := Lib.hid (show ∀ wz, Below w1.heap.size w1 wz → RcJ d ln t.data.toList r w1 wz m2 (b ++ [x]) (S ++ X) from fun wz hb => ⟨hst.symm, HL2.out.2, by have := HL2.out.1; simp only [List.length_append, List.length_cons, List.length_nil]; omega, by rw [HJ.out.str, hX, txt_append], hb⟩)
      have hwm := HWM.out
      have hwm1 := HWM1.out
      by_cases hx10 : x = 10
      · have q4 : ((x.toNat : Int) == 10) = true := u8_yes x 10 hx10 (by decide)
        have hln : ln = true := by cases ln with
          | true => rfl
          | false => exact absurd ⟨hx10, rfl⟩ hf
        subst hln
        clear hc h1 h2 h3 hm1 hm2 hc9 hm3 hx hst hf hxd hx10 hX
        go_wp2_with fail
        exact ⟨⟨m2, _, b ++ [x], rfl, rfl, Lib.hid (HN.out _ HJ.out.below)⟩, by simpa [intOf] using HML2.out⟩
      · have q4 : ((x.toNat : Int) == 10) = false := u8_no x 10 hx10 (by decide)
        clear hc h1 h2 h3 hm1 hm2 hc9 hm3 hx hst hf hxd hx10 hX
        go_wp2_with fail
        exact ⟨⟨m2, _, b ++ [x], rfl, rfl, Lib.hid (HN.out _ HJ.out.below)⟩, by simpa [intOf] using HML2.out⟩
    · have q5 : ((x.toNat : Int) != (d.toNat : Int)) = true := by rw [bne, u8_same]; simp [hxd]
      rw [if_neg hxd] at hst
      have HN := Lib.hid (show ∀ wz, Below w1.heap.size w1 wz → RcJ d ln t.data.toList r w1 wz m2 (b ++ [92, x]) (S ++ ⟨#[92]⟩ ++ X) from fun wz hb => ⟨hst.symm, HL2.out.2, by have := HL2.out.1; simp only [List.length_append, List.length_cons, List.length_nil]; omega, by
        rw [HJ.out.str, hX, show (⟨#[92]⟩ : ByteArray) = txt [92] from rfl, txt_append, txt_append, List.append_assoc]; rfl, hb⟩)
      have hwm := HWM.out
      have hwm1 := HWM1.out
      have hcv := HCV.out wr
      have hs2 : (S ++ (⟨#[92]⟩ : ByteArray)).size ≤ 2097153 := by rw [HJ.out.str, show (⟨#[92]⟩ : ByteArray) = txt [92] from rfl, txt_append, size_txt, List.length_append]; rw [HJ.out.str, size_txt] at hSS; simp only [List.length_cons, List.length_nil]; omega
      by_cases hx10 : x = 10
      · have q4 : ((x.toNat : Int) == 10) = true := u8_yes x 10 hx10 (by decide)
        have hln : ln = true := by cases ln with
          | true => rfl
          | false => exact absurd ⟨hx10, rfl⟩ hf
        subst hln
        clear hc h1 h2 h3 hm1 hm2 hc9 hm3 hx hst hf hxd hx10 hX
        go_wp2_with fail
        exact ⟨⟨m2, _, b ++ [92, x], rfl, rfl, Lib.hid (HN.out _ (HJ.out.below.alloc HJ.out.below.size _))⟩, by simpa [intOf] using HML2.out⟩
      · have q4 : ((x.toNat : Int) == 10) = false := u8_no x 10 hx10 (by decide)
        clear hc h1 h2 h3 hm1 hm2 hc9 hm3 hx hst hf hxd hx10 hX
        go_wp2_with fail
        exact ⟨⟨m2, _, b ++ [92, x], rfl, rfl, Lib.hid (HN.out _ (HJ.out.below.alloc HJ.out.below.size _))⟩, by simpa [intOf] using HML2.out⟩
end Go.Proofs.Ytkgpicalbpimdaa

/-
  The document's Lines. Condition: a text of at most 2^20 bytes.
-/
import Derived.Test.YtkgpicalbpimdaaTkru
namespace Go.Proofs.Ytkgpicalbpimdaa
open Go.RowKit Go.Deep

theorem run_one (p : UInt8) (W : World) : (convert 37 9 (.slice (some ⟨W.heap.size, 0, none⟩) 1 1)).run Try.prog (W.alloc (.cells #[.int .u8 (p.toNat : Int)] 5)) =
    .ok (.string ⟨#[p]⟩) (W.alloc (.cells #[.int .u8 (p.toNat : Int)] 5)) := by
  refine run_convert_bytes_back (P := Try.prog) _ 37 9 5 ⟨W.heap.size, 0, none⟩ 1 [p] Try.underlying37 Try.underlying5 Try.underlying9 (fun j hj => ?_)
  match j, hj with
  | 0, _ => simp [Addr.add, go_sem]
theorem one_slice {t : ByteArray} {m m1 : Nat} {c : UInt8} (hc : t.data.toList[m]? = some c) (hm : m1 = m + 1) (W : World) : (Instr.slice 9 (.string t) (some (.int .i64 (m : Int))) (some (.int .i64 (m1 : Int))) none).run Try.prog W = .ok (.string (txt [c])) W := by
  have hlt := (List.getElem?_eq_some_iff.1 hc).1
  rw [str_slice (s := t) (l := t.data.toList) (txt_of t).symm (by omega) (by omega) W, hm, List.take_add_one, hc]
  rw [List.drop_append_of_le_length (by rw [List.length_take]; omega), List.drop_eq_nil_of_le (by rw [List.length_take]; omega)]
  rfl
theorem lin_out {l : List UInt8} {i : Int} (h : ¬ (0 ≤ i ∧ i ≤ (l.length : Int))) : linG l i = none := if_neg h
theorem lin_bad {l : List UInt8} {k f : Nat} (hf : f = k + blk (l.drop k)) (h : ¬ (l[f]? = some 92 ∧ l[f + 1]? = some 10)) : linG l (k : Int) = none := by
  unfold linG
  split
  · rw [Int.toNat_natCast, ← hf, if_neg h]
  · rfl
theorem sub2 {a f : Nat} {n : Nat} (h : a = f + n) (hn : n ≤ 1048576) : wrap64 ((a : Int) - (f : Int)) = (n : Int) := by
  rw [show (a : Int) - (f : Int) = (n : Int) by omega]
  exact IntWalk.wrap64_in _ (by omega)
set_option maxRecDepth 100000 in
set_option maxHeartbeats 8000000 in
theorem rlines_is (t : ByteArray) (hz : t.size ≤ 1048576) (i : Int) (w : World) : Calls Try.prog 20 #[.string t, .int .i64 i] w (LinAns (linG t.data.toList i) w) := by
  have HSZ := Lib.hid (size_of (s := t) rfl)
  have HZ := Lib.hid hz
  have HBL := Lib.hid fun (W : World) => rblanks_is t hz i W
  clear hz
  have HX := Lib.hid fun (W : World) => rplace_is t i W
  have HCV := Lib.hid (show ∀ W : World, (convert 37 9 (.slice (some ⟨W.heap.size, 0, none⟩) 1 1)).run Try.prog (W.alloc (.cells #[.int .u8 10] 5)) = .ok (.string ⟨#[10]⟩) (W.alloc (.cells #[.int .u8 10] 5)) from fun W => run_one 10 W)
  unfold LinAns
  by_cases hv : 0 ≤ i ∧ i ≤ (t.size : Int)
  case neg =>
    have HE := Lib.hid (lin_out (l := t.data.toList) (i := i) (fun h => hv ⟨h.1, by rw [HSZ.out]; exact h.2⟩))
    rw [show (decide (0 ≤ i) && decide (i ≤ (t.size : Int))) = false by rw [← Bool.decide_and]; exact decide_eq_false hv] at HX
    obtain ⟨y, hy⟩ : ∃ y, y = blanksF t.data.toList i := ⟨_, rfl⟩
    rw [← hy] at HBL
    clear hv HCV hy
    go_enter Try.func20, Try.ntmps20
    go_wp2_with fail
    go_at_call 26
    refine (HX.out _).mono ?_
    rintro e w1 ⟨rfl, rfl⟩
    go_wp2_with fail
    go_at_call 22
    refine (HBL.out _).mono ?_
    rintro e w1 ⟨rfl, rfl⟩
    go_wp2_with fail
    refine bodyPost_ret (v := .tuple #[.string ⟨#[]⟩, .int .i64 0, .int .i64 121]) (by simp [results, Try.results20, go_sem]) rfl ⟨by rw [HE.out]; rfl, Below.refl _ _⟩
  case pos =>
  rw [show (decide (0 ≤ i) && decide (i ≤ (t.size : Int))) = true by rw [← Bool.decide_and]; exact decide_eq_true hv] at HX
  obtain ⟨k, rfl⟩ : ∃ k : Nat, i = (k : Int) := ⟨i.toNat, by omega⟩
  obtain ⟨f, hf⟩ : ∃ f, f = k + blk (t.data.toList.drop k) := ⟨_, rfl⟩
  have hfl : f ≤ t.size := by
    have := blk_le (t.data.toList.drop k)
    rw [List.length_drop] at this
    have := HSZ.out
    omega
  have hbf : blanksF t.data.toList (k : Int) = (f : Int) := by
    unfold blanksF
    rw [if_pos (by omega), Int.toNat_natCast, hf]
    omega
  rw [hbf] at HBL
  obtain ⟨r, hr⟩ : ∃ r, r = linG t.data.toList (k : Int) := ⟨_, rfl⟩
  rw [← hr]
  obtain ⟨n, hn⟩ : ∃ n, t.size = f + n := ⟨t.size - f, by omega⟩
  have HSUB := Lib.hid (sub2 hn (by have := HZ.out; omega))
  by_cases hn2 : n < 2
  · have HE := Lib.hid (show r = none by rw [hr]; exact lin_bad hf (fun h => by have := (List.getElem?_eq_some_iff.1 h.2).1; rw [← HSZ.out] at this; omega))
    have g2 : decide (wrap64 ((t.size : Int) - (f : Int)) < 2) = true := by rw [HSUB.out]; exact decide_eq_true (by omega)
    clear hv HCV hf hfl hbf hr hn hn2
    go_enter Try.func20, Try.ntmps20
    go_wp2_with fail
    go_at_call 26
    refine (HX.out _).mono ?_
    rintro e w1 ⟨rfl, rfl⟩
    go_wp2_with fail
    go_at_call 22
    refine (HBL.out _).mono ?_
    rintro e w1 ⟨rfl, rfl⟩
    go_wp2_with fail
    refine bodyPost_ret (v := .tuple #[.string ⟨#[]⟩, .int .i64 0, .int .i64 121]) (by simp [results, Try.results20, go_sem]) rfl ⟨by rw [HE.out]; rfl, Below.refl _ _⟩
  have hf1 : f < t.size := by omega
  have hf2 : f + 1 < t.size := by omega
  obtain ⟨c, hc⟩ : ∃ c, t.data.toList[f]? = some c := ⟨_, List.getElem?_eq_getElem (by rw [← HSZ.out]; exact hf1)⟩
  obtain ⟨d, hd⟩ : ∃ d, t.data.toList[f + 1]? = some d := ⟨_, List.getElem?_eq_getElem (by rw [← HSZ.out]; exact hf2)⟩
  have hat := at_of rfl hc
  have hfi : (f : Int) < (t.size : Int) := by omega
  by_cases h1 : c = 92
  case neg =>
    have q1 : ((c.toNat : Int) != 92) = true := u8_nno c 92 h1 (by decide)
    have HE := Lib.hid (show r = none by rw [hr]; exact lin_bad hf (fun h => h1 (by have := h.1; rw [hc] at this; injection this)))
    have g2 : decide (wrap64 ((t.size : Int) - (f : Int)) < 2) = false := by rw [HSUB.out]; exact decide_eq_false (by omega)
    clear hv HCV hf hfl hbf hr hn hn2 hf2 hc hd h1
    go_enter Try.func20, Try.ntmps20
    go_wp2_with fail
    go_at_call 26
    refine (HX.out _).mono ?_
    rintro e w1 ⟨rfl, rfl⟩
    go_wp2_with fail
    go_at_call 22
    refine (HBL.out _).mono ?_
    rintro e w1 ⟨rfl, rfl⟩
    go_wp2_with fail
    refine bodyPost_ret (v := .tuple #[.string ⟨#[]⟩, .int .i64 0, .int .i64 121]) (by simp [results, Try.results20, go_sem]) rfl ⟨by rw [HE.out]; rfl, Below.refl _ _⟩
  case pos =>
  have q1 : ((c.toNat : Int) != 92) = false := u8_nyes c 92 h1 (by decide)
  obtain ⟨f1, hf1e⟩ : ∃ f1, f1 = f + 1 := ⟨_, rfl⟩
  have HW1 := Lib.hid (addU (by have := HZ.out; omega) hf1e)
  have hat1 := at_of rfl (show t.data.toList[f1]? = some d by rw [hf1e]; exact hd)
  have hf1i : (f1 : Int) < (t.size : Int) := by omega
  have hf1n : f1 < t.size := by omega
  by_cases h2 : d = 10
  case neg =>
    have q2 : ((d.toNat : Int) != 10) = true := u8_nno d 10 h2 (by decide)
    have HE := Lib.hid (show r = none by rw [hr]; exact lin_bad hf (fun h => h2 (by have := h.2; rw [hd] at this; injection this)))
    have g2 : decide (wrap64 ((t.size : Int) - (f : Int)) < 2) = false := by rw [HSUB.out]; exact decide_eq_false (by omega)
    have hw1 := HW1.out
    clear hv HCV hf hfl hbf hr hn hn2 hf2 hc hd h1 h2 hf1e
    go_enter Try.func20, Try.ntmps20
    go_wp2_with fail
    go_at_call 26
    refine (HX.out _).mono ?_
    rintro e w1 ⟨rfl, rfl⟩
    go_wp2_with fail
    go_at_call 22
    refine (HBL.out _).mono ?_
    rintro e w1 ⟨rfl, rfl⟩
    go_wp2_with fail
    refine bodyPost_ret (v := .tuple #[.string ⟨#[]⟩, .int .i64 0, .int .i64 121]) (by simp [results, Try.results20, go_sem]) rfl ⟨by rw [HE.out]; rfl, Below.refl _ _⟩
  case pos =>
  have q2 : ((d.toNat : Int) != 10) = false := u8_nyes d 10 h2 (by decide)
  obtain ⟨f2, hf2e⟩ : ∃ f2, f2 = f + 2 := ⟨_, rfl⟩
  have HW2 := Lib.hid (show IntKind.i64.wrap ((f : Int) + 2) = (f2 : Int) by
    have := HZ.out
    rw [IntWalk.i64_in ((f : Int) + 2) (by omega)]; omega)
  have HS := Lib.hid (show linAt t.data.toList f2 [] = r ∧ f2 ≤ t.size from ⟨by
    rw [hr, hf2e]; unfold linG; rw [if_pos ⟨by omega, by rw [← HSZ.out]; exact hv.2⟩, Int.toNat_natCast, ← hf, if_pos ⟨by rw [hc, h1], by rw [hd, h2]⟩], by omega⟩)
  have g2 : decide (wrap64 ((t.size : Int) - (f : Int)) < 2) = false := by rw [HSUB.out]; exact decide_eq_false (by omega)
  have hw1 := HW1.out
  have hw2 := HW2.out
  clear hv hf hfl hbf hr hn hn2 hf2 hc hd h1 h2 hf1e hf2e
  go_enter Try.func20, Try.ntmps20
  go_wp2_with fail
  go_at_call 26
  refine (HX.out _).mono ?_
  rintro e w1 ⟨rfl, rfl⟩
  go_wp2_with fail
  go_at_call 22
  refine (HBL.out _).mono ?_
  rintro e w1 ⟨rfl, rfl⟩
  go_wp2_with fail
  go_loopw [8, 9] (fun v x wz => ∃ (m : Nat) (S : ByteArray) (b : List UInt8), v = .int .i64 (m : Int) ∧ x = .string S ∧ Hid (S = txt b ∧ linAt t.data.toList m b = r ∧ m ≤ t.size ∧ b.length ≤ m) ∧ wz = w1) (fun v _ _ => t.size + 1 - (intOf v).toNat)
  case atStart => exact ⟨f2, _, [], rfl, rfl, Lib.hid ⟨rfl, HS.out.1, HS.out.2, by simp⟩, rfl⟩
  case round =>
    obtain ⟨m, S, b, rfl, rfl, HJ, rfl⟩ := hrel
    clear HX HBL g2 hw1 hw2 q1 q2 hat hat1 hfi hf1i hf1n hf1 HS
    have hSS : S.size ≤ 1048576 := by rw [HJ.out.1, size_txt]; have := HJ.out.2.2.2; have := HJ.out.2.2.1; have := HZ.out; omega
    by_cases hm : m < t.size
    · have gm : decide ((m : Int) < (t.size : Int)) = true := decide_eq_true (by omega)
      have hmi : (m : Int) < (t.size : Int) := by omega
      obtain ⟨c, hc⟩ : ∃ c, t.data.toList[m]? = some c := ⟨_, List.getElem?_eq_getElem (by simpa using hm)⟩
      have hat := at_of rfl hc
      by_cases h1 : c = 10
      · have q1 : ((c.toNat : Int) != 10) = false := u8_nyes c 10 h1 (by decide)
        have HE := Lib.hid (show r = some (b ++ [10], m) by rw [← HJ.out.2.1]; exact linAt_feed (by rw [hc, h1]))
        clear hc h1
        have hcv := HCV.out wr
        go_wp2_with fail
        refine bodyPost_ret (v := .tuple #[.string (S ++ ⟨#[10]⟩), .int .i64 (m : Int), .int .i64 0]) (by simp [results, Try.results20, go_sem]) rfl ⟨by rw [HE.out, HJ.out.1]; exact congrArg (fun s => Ending.returned (Value.tuple #[.string s, .int .i64 (m : Int), .int .i64 0])) (txt_append b [10]), (Below.refl _ _).alloc (Nat.le_refl _) _⟩

      have q1 : ((c.toNat : Int) != 10) = true := u8_nno c 10 h1 (by decide)
      obtain ⟨m1, hm1⟩ : ∃ m1, m1 = m + 1 := ⟨_, rfl⟩
      have HWM := Lib.hid (addU (by have := HZ.out; omega) hm1)
      have HML := Lib.hid (show t.size + 1 - m1 < t.size + 1 - m by omega)
      by_cases h2 : c = 92
      · have q2 : ((c.toNat : Int) == 92) = true := u8_yes c 92 h2 (by decide)
        have hc9 : t.data.toList[m]? = some 92 := by rw [hc, h2]
        by_cases hm2 : m1 = t.size
        · have gm1 : ((m1 : Int) == (t.size : Int)) = true := by rw [hm2, beq_self_eq_true]
          have HE := Lib.hid (show r = none by rw [← HJ.out.2.1]; exact linAt_back_end hc9 (by rw [← HSZ.out]; omega))
          have hwm := HWM.out
          clear hc h1 h2 hm1 hc9 hm2
          go_wp2_with fail
          refine bodyPost_ret (v := .tuple #[.string ⟨#[]⟩, .int .i64 0, .int .i64 121]) (by simp [results, Try.results20, go_sem]) rfl ⟨by rw [HE.out]; rfl, Below.refl _ _⟩
        have gm1 : ((m1 : Int) == (t.size : Int)) = false := by rw [beq_eq_false_iff_ne]; omega
        have hlt1 : m1 < t.size := by omega
        obtain ⟨x, hx⟩ : ∃ x, t.data.toList[m1]? = some x := ⟨_, List.getElem?_eq_getElem (by simpa using hlt1)⟩
        obtain ⟨m2, hm3⟩ : ∃ m2, m2 = m1 + 1 := ⟨_, rfl⟩
        have HWM1 := Lib.hid (addU (by have := HZ.out; omega) hm3)
        have HML2 := Lib.hid (show t.size + 1 - m2 < t.size + 1 - m by omega)
        have hsl := fun W => one_slice hx hm3 W
        obtain ⟨X, hX⟩ : ∃ X, X = txt [x] := ⟨_, rfl⟩
        rw [← hX] at hsl
        have hst := linAt_back (b := b) hc9 (by rw [← hm1]; exact hx)
        rw [show m + 2 = m2 by omega, HJ.out.2.1] at hst
        have HN := Lib.hid (show S ++ X = txt (b ++ [x]) ∧ linAt t.data.toList m2 (b ++ [x]) = r ∧ m2 ≤ t.size ∧ (b ++ [x]).length ≤ m2 from ⟨by rw [HJ.out.1, hX, txt_append], hst.symm, by omega, by have := HJ.out.2.2.2; simp only [List.length_append, List.length_cons, List.length_nil]; omega⟩)
        have hXs : X.size ≤ 1 := by rw [hX, size_txt]; simp
        have hwm := HWM.out
        have hwm1 := HWM1.out
        clear hc h1 h2 hm1 hc9 hm2 hx hm3 hX hst
        go_wp2_with fail
        exact ⟨⟨m2, _, b ++ [x], rfl, rfl, HN, trivial⟩, by simpa [intOf] using HML2.out⟩
      · have q2 : ((c.toNat : Int) == 92) = false := u8_no c 92 h2 (by decide)
        have hsl := fun W => one_slice hc hm1 W
        obtain ⟨X, hX⟩ : ∃ X, X = txt [c] := ⟨_, rfl⟩
        rw [← hX] at hsl
        have HN := Lib.hid (show S ++ X = txt (b ++ [c]) ∧ linAt t.data.toList m1 (b ++ [c]) = r ∧ m1 ≤ t.size ∧ (b ++ [c]).length ≤ m1 from ⟨by rw [HJ.out.1, hX, txt_append], by rw [← HJ.out.2.1, hm1]; exact (linAt_other hc h1 h2).symm, by omega, by have := HJ.out.2.2.2; simp only [List.length_append, List.length_cons, List.length_nil]; omega⟩)
        have hXs : X.size ≤ 1 := by rw [hX, size_txt]; simp
        have hwm := HWM.out
        clear hc h1 h2 hm1 hX
        go_wp2_with fail
        exact ⟨⟨m1, _, b ++ [c], rfl, rfl, HN, trivial⟩, by simpa [intOf] using HML.out⟩
    · have gm : decide ((m : Int) < (t.size : Int)) = false := decide_eq_false (by omega)
      have gmn : decide (m < t.size) = false := decide_eq_false hm
      have hge : (t.size : Int) ≤ (m : Int) := by omega
      have HE := Lib.hid (show r = some (b ++ [10], m) by rw [← HJ.out.2.1]; exact linAt_end (by rw [← HSZ.out]; omega))
      clear hm
      have hcv := HCV.out wr
      go_wp2_with fail
      refine bodyPost_ret (v := .tuple #[.string (S ++ ⟨#[10]⟩), .int .i64 (m : Int), .int .i64 0]) (by simp [results, Try.results20, go_sem]) rfl ⟨by rw [HE.out, HJ.out.1]; exact congrArg (fun s => Ending.returned (Value.tuple #[.string s, .int .i64 (m : Int), .int .i64 0])) (txt_append b [10]), (Below.refl _ _).alloc (Nat.le_refl _) _⟩

end Go.Proofs.Ytkgpicalbpimdaa

/-
  TokenWords: it returns true and turns nothing that was there. No condition.
-/
import Derived.Test.YtkgpicalbpimdaaTkwp
import Derived.Test.YtkgpicalbpimdaaTkalv
namespace Go.Proofs.Ytkgpicalbpimdaa
open Go.RowKit Go.Deep

theorem cat4_list (a b c d : ByteArray) : (a ++ b ++ c ++ d).data.toList = a.data.toList ++ b.data.toList ++ c.data.toList ++ d.data.toList := by simp
theorem words_size1 {B W : ByteArray} : (B ++ W ++ B).size = B.size + W.size + B.size := by simp
theorem words_size2 {B W : ByteArray} {c : UInt8} : (B ++ W ++ B ++ ⟨#[c]⟩).size = B.size + W.size + B.size + 1 := by
  rw [ByteArray.size_append, words_size1]; rfl
theorem words_size3 {B W : ByteArray} {c d : UInt8} : (B ++ W ++ B ++ ⟨#[c]⟩ ++ ⟨#[d]⟩).size = B.size + W.size + B.size + 1 + 1 := by
  rw [ByteArray.size_append, words_size2]; rfl
theorem words_size4 {B W : ByteArray} {c : UInt8} : (B ++ W ++ B ++ ⟨#[c]⟩ ++ W).size = B.size + W.size + B.size + 1 + W.size := by
  rw [ByteArray.size_append, words_size2]
theorem words_one {B W : ByteArray} {c d : UInt8} (hB : ∀ c ∈ B.data.toList, isBl c = true) (hW : ∀ c ∈ W.data.toList, isLt c = true) (hc : c = 10 ∨ c = 59) : upF endW (B ++ W ++ B ++ ⟨#[c]⟩ ++ ⟨#[d]⟩).data.toList 0 = (W.data.toList, (B.size : Int) + (W.size : Int) + (B.size : Int)) := by
  have e : (B ++ W ++ B ++ ⟨#[c]⟩ ++ ⟨#[d]⟩).data.toList = B.data.toList ++ W.data.toList ++ B.data.toList ++ [c, d] := by simp
  rw [e, word_here hB hW (.inr ⟨c, [d], rfl, hc⟩), size_of (s := B) rfl, size_of (s := W) rfl]
theorem words_two {B W : ByteArray} (hB : ∀ c ∈ B.data.toList, isBl c = true) (hW : ∀ c ∈ W.data.toList, isLt c = true) : upF endW (B ++ W ++ B).data.toList 0 = (W.data.toList, (B.size : Int) + (W.size : Int) + (B.size : Int)) := by
  have e : (B ++ W ++ B).data.toList = B.data.toList ++ W.data.toList ++ B.data.toList ++ [] := by simp
  rw [e, word_here hB hW (.inl rfl), size_of (s := B) rfl, size_of (s := W) rfl]
theorem words_rest {B W : ByteArray} (hB : ∀ c ∈ B.data.toList, isBl c = true) (hW : ∀ c ∈ W.data.toList, isLt c = true) : upF endR (B ++ W ++ B ++ ⟨#[59]⟩ ++ W).data.toList 0 = (if W.data.toList = [] then [59] else W.data.toList ++ B.data.toList ++ [59] ++ W.data.toList, (B.size : Int) + (W.size : Int) + (B.size : Int) + 1 + (W.size : Int)) := by
  have e : (B ++ W ++ B ++ ⟨#[59]⟩ ++ W).data.toList = B.data.toList ++ W.data.toList ++ B.data.toList ++ [59] ++ W.data.toList := by simp
  rw [e, rest_here hB hW, size_of (s := B) rfl, size_of (s := W) rfl]
theorem bl_at {r : Nat} (h : r < 2) : (⟨#[32, 9]⟩ : ByteArray).data.toList[r]? = some (if r = 0 then 32 else 9) := by
  match r, h with
  | 0, _ => rfl
  | 1, _ => rfl
set_option maxRecDepth 100000 in
set_option maxHeartbeats 16000000 in
theorem words_walk (word : ByteArray) (n en : Int) (w : World) : Calls Try.prog 9 #[.string word, .int .i64 n, .int .i64 en] w (Alv w) := by
  have HAL := Lib.hid fun (W : World) => alive_is W
  have HCV := Lib.hid (show ∀ W : World, (convert 37 9 (.slice (some ⟨W.heap.size, 0, none⟩) 1 1)).run Try.prog (W.alloc (.cells #[.int .u8 10] 5)) = .ok (.string ⟨#[10]⟩) (W.alloc (.cells #[.int .u8 10] 5)) from fun W => run_one 10 W)
  unfold Alv at HAL ⊢
  by_cases hz : word.size ≤ 100
  case neg =>
    have g : decide ((word.size : Int) > 100) = true := decide_eq_true (by omega)
    have gn : decide (100 < word.size) = true := decide_eq_true (by omega)
    clear hz HCV
    go_enter Try.func9, Try.ntmps9
    go_wp2_with fail
    go_at_call 10
    refine (HAL.out _).mono ?_
    rintro e w1 ⟨rfl, hb⟩
    have HB := Lib.hid hb
    clear hb
    go_wp2_with fail
    go_ret
    exact ⟨rfl, HB.out⟩
  case pos =>
  have gs : decide ((word.size : Int) > 100) = false := decide_eq_false (by omega)
  have gsn : decide (100 < word.size) = false := decide_eq_false (by omega)
  have gsi : (word.size : Int) ≤ 100 := by omega
  by_cases h0 : n < 0
  · have g : decide (n < 0) = true := decide_eq_true h0
    clear h0 hz HCV
    go_enter Try.func9, Try.ntmps9
    go_wp2_with fail
    go_at_call 10
    refine (HAL.out _).mono ?_
    rintro e w1 ⟨rfl, hb⟩
    have HB := Lib.hid hb
    clear hb
    go_wp2_with fail
    go_ret
    exact ⟨rfl, HB.out⟩
  have gn1 : decide (n < 0) = false := decide_eq_false h0
  have gn1i : 0 ≤ n := by omega
  by_cases h9 : n > 100
  · have g : decide (n > 100) = true := decide_eq_true h9
    clear h0 h9 hz HCV
    go_enter Try.func9, Try.ntmps9
    go_wp2_with fail
    go_at_call 10
    refine (HAL.out _).mono ?_
    rintro e w1 ⟨rfl, hb⟩
    have HB := Lib.hid hb
    clear hb
    go_wp2_with fail
    go_ret
    exact ⟨rfl, HB.out⟩
  have gn2 : decide (n > 100) = false := decide_eq_false h9
  have gn2i : n ≤ 100 := by omega
  obtain ⟨nn, hnn⟩ : ∃ nn : Nat, (nn : Int) = n := ⟨n.toNat, by omega⟩
  have HNN := Lib.hid (show (nn : Int) = n ∧ nn ≤ 100 from ⟨hnn, by omega⟩)
  have HSZ := Lib.hid (size_of (s := word) rfl)
  have HZ := Lib.hid hz
  clear hnn h0 h9
  go_enter Try.func9, Try.ntmps9
  go_wp2_with fail
  clear gs gsn gsi gn1 gn1i gn2 gn2i
  go_loopw [7] (fun v wz => ∃ m : Nat, v = .int .i64 (m : Int) ∧ Hid (m ≤ word.size ∧ ∀ i, i < m → ∃ c, word.data.toList[i]? = some c ∧ isLt c = true) ∧ wz = w) (fun v _ => word.size + 1 - (intOf v).toNat)
  case atStart => exact ⟨0, rfl, Lib.hid ⟨by omega, fun i hi => by omega⟩, rfl⟩
  case round =>
    obtain ⟨m, rfl, HJ, rfl⟩ := hrel
    by_cases hm : m < word.size
    case pos =>
      have gm : decide ((m : Int) < (word.size : Int)) = true := decide_eq_true (by omega)
      have hmi : (m : Int) < (word.size : Int) := by omega
      obtain ⟨c, hc⟩ : ∃ c, word.data.toList[m]? = some c := ⟨_, List.getElem?_eq_getElem (by simpa using hm)⟩
      have hat := at_of rfl hc
      obtain ⟨m1, hm1⟩ : ∃ m1, m1 = m + 1 := ⟨_, rfl⟩
      have HWM := Lib.hid (addU (by have := HZ.out; omega) hm1)
      have HML := Lib.hid (show word.size + 1 - m1 < word.size + 1 - m by omega)
      by_cases h97 : 97 ≤ c.toNat
      case neg =>
        have g97 : decide ((c.toNat : Int) < 97) = true := decide_eq_true (by omega)
        have g97n : decide (c.toNat < 97) = true := decide_eq_true (by omega)
        have g97i : (c.toNat : Int) < 97 := by omega
        clear hc h97 hm1
        go_wp2_with fail
        go_at_call 10
        refine (HAL.out _).mono ?_
        rintro e w1 ⟨rfl, hb⟩
        have HB := Lib.hid hb
        clear hb
        go_wp2_with fail
        go_ret
        exact ⟨rfl, HB.out⟩
      case pos =>
      have g97 : decide ((c.toNat : Int) < 97) = false := decide_eq_false (by omega)
      have g97n : decide (c.toNat < 97) = false := decide_eq_false (by omega)
      have g97i : (97 : Int) ≤ (c.toNat : Int) := by omega
      by_cases h122 : c.toNat ≤ 122
      case neg =>
        have g122 : decide ((c.toNat : Int) > 122) = true := decide_eq_true (by omega)
        have g122n : decide (122 < c.toNat) = true := decide_eq_true (by omega)
        have g122i : (122 : Int) < (c.toNat : Int) := by omega
        clear hc h97 h122 hm1
        go_wp2_with fail
        go_at_call 10
        refine (HAL.out _).mono ?_
        rintro e w1 ⟨rfl, hb⟩
        have HB := Lib.hid hb
        clear hb
        go_wp2_with fail
        go_ret
        exact ⟨rfl, HB.out⟩
      case pos =>
        have g122 : decide ((c.toNat : Int) > 122) = false := decide_eq_false (by omega)
        have g122n : decide (122 < c.toNat) = false := decide_eq_false (by omega)
        have g122i : (c.toNat : Int) ≤ 122 := by omega
        have HN := Lib.hid (show m1 ≤ word.size ∧ ∀ i, i < m1 → ∃ c, word.data.toList[i]? = some c ∧ isLt c = true from ⟨by omega, fun i hi => by
          by_cases e : i = m
          · subst e; exact ⟨c, hc, by unfold isLt; rw [decide_eq_true h97, decide_eq_true h122]; rfl⟩
          · exact HJ.out.2 i (by omega)⟩)
        have hwm := HWM.out
        clear hc h97 h122 hm1
        go_wp2_with fail
        exact ⟨⟨m1, rfl, HN, trivial⟩, by simpa [intOf] using HML.out⟩
    case neg =>
    have gm : decide ((m : Int) < (word.size : Int)) = false := decide_eq_false (by omega)
    have gmn : decide (m < word.size) = false := decide_eq_false hm
    have hge : (word.size : Int) ≤ (m : Int) := by omega
    have HLT := Lib.hid (show ∀ c ∈ word.data.toList, isLt c = true from fun c hc => by
      obtain ⟨i, hi⟩ := List.mem_iff_getElem?.1 hc
      have h1 := (List.getElem?_eq_some_iff.1 hi).1
      rw [← HSZ.out] at h1
      obtain ⟨c', hc', hl⟩ := HJ.out.2 i (by omega)
      rw [hi] at hc'; injection hc' with hc'; rw [hc']; exact hl)
    clear hm HJ
    go_upto_region 10 with fail
    clear gm gmn hge
    go_wp2_with fail
    go_loopw [8, 9] (fun x v wz => ∃ (j : Nat) (B : ByteArray), v = .int .i64 (j : Int) ∧ x = .string B ∧ Hid (B = txt (blN j) ∧ j ≤ nn) ∧ wz = wr) (fun _ v _ => nn + 1 - (intOf v).toNat)
    case atStart => exact ⟨0, _, rfl, rfl, Lib.hid ⟨rfl, by omega⟩, rfl⟩
    case round =>
      obtain ⟨j, B, rfl, rfl, HJ, rfl⟩ := hrel
      have hBs : B.size ≤ 100 := by rw [HJ.out.1, size_txt, blN_len]; have := HJ.out.2; have := HNN.out.2; omega
      by_cases hj : j < nn
      case pos =>
        have gj : decide ((j : Int) < n) = true := decide_eq_true (by have := HNN.out.1; omega)
        have gji : (j : Int) < n := by have := HNN.out.1; omega
        obtain ⟨rr, hr⟩ : ∃ rr, rr = j % 2 := ⟨_, rfl⟩
        obtain ⟨r1, hr1⟩ : ∃ r1, r1 = rr + 1 := ⟨_, rfl⟩
        have hrI : (j : Int).tmod 2 = (rr : Int) := by rw [hr]; rfl
        have HRR := Lib.hid (show rr < 2 by omega)
        have HQ : Hid (IntKind.i64.wrap (rr : Int) = (rr : Int) ∧ wrap64 (rr : Int) = (rr : Int)) := Lib.hid ⟨IntWalk.i64_in _ (by have := HRR.out; omega), IntWalk.wrap64_in _ (by have := HRR.out; omega)⟩
        have HR1 := Lib.hid (show IntKind.i64.wrap ((rr : Int) + 1) = (r1 : Int) by rw [IntWalk.i64_in ((rr : Int) + 1) (by have := HRR.out; omega)]; omega)
        have hsl := fun W => one_slice (t := ⟨#[32, 9]⟩) (bl_at HRR.out) hr1 W
        have hX0 : (if rr = 0 then (32 : UInt8) else 9) = blC j := by unfold blC; rw [hr]
        rw [hX0] at hsl
        obtain ⟨X, hX⟩ : ∃ X, X = txt [blC j] := ⟨_, rfl⟩
        rw [← hX] at hsl
        have hXs : X.size ≤ 1 := by rw [hX, size_txt]; simp
        obtain ⟨j1, hj1⟩ : ∃ j1, j1 = j + 1 := ⟨_, rfl⟩
        have HWJ := Lib.hid (addU (by have := HNN.out.2; omega) hj1)
        have HML := Lib.hid (show nn + 1 - j1 < nn + 1 - j by omega)
        have HN := Lib.hid (show B ++ X = txt (blN j1) ∧ j1 ≤ nn from ⟨by rw [HJ.out.1, hX, txt_append, hj1]; rfl, by omega⟩)
        have hq1 := HQ.out.1
        have hq2 := HQ.out.2
        have hr2 := HR1.out
        have hwj := HWJ.out
        clear hr hr1 hX0 hX hj1 hj
        go_wp2_with fail
        exact ⟨⟨j1, _, rfl, rfl, HN, trivial⟩, by simpa [intOf] using HML.out⟩
      case neg =>
        have gj : decide ((j : Int) < n) = false := decide_eq_false (by have := HNN.out.1; omega)
        have gji : n ≤ (j : Int) := by have := HNN.out.1; omega
        have HBB := Lib.hid (show (∀ c ∈ B.data.toList, isBl c = true) ∧ True from ⟨fun c hc => by rw [HJ.out.1] at hc; exact blN_bl j c (by simpa [txt] using hc), trivial⟩)
        have HW2 := Lib.hid fun (W : World) => word_is (B ++ word ++ B) (by rw [words_size1]; have := HZ.out; omega) 0 W
        rw [words_two HBB.out.1 HLT.out] at HW2
        unfold UpAns UpV at HW2
        simp only [] at HW2
        rw [txt_of] at HW2
        have hz1 : (B ++ word).size ≤ 200 := by rw [ByteArray.size_append]; omega
        have hz2 : (B ++ word ++ B).size ≤ 300 := by rw [words_size1]; omega
        have hz4 : (B ++ word ++ B ++ (⟨#[59]⟩ : ByteArray)).size ≤ 301 := by rw [words_size2]; omega
        have hz5 : (word ++ B).size ≤ 200 := by rw [ByteArray.size_append]; omega
        have hz6 : (word ++ B ++ (⟨#[59]⟩ : ByteArray)).size ≤ 201 := by rw [ByteArray.size_append, ByteArray.size_append]; show word.size + B.size + 1 ≤ 201; omega
        have hBi : (B.size : Int) ≤ 100 := by omega
        have hWi : (word.size : Int) ≤ 100 := by omega
        clear HJ hj
        go_upto_region 13 with fail
        clear gj gji
        by_cases hwe : word.data.toList = []
        case pos =>
          have gw : word.toList.isEmpty = true := by rw [ByteArray.toList_eq, hwe]; rfl
          have HW3 := Lib.hid fun (W : World) => rest_is (B ++ word ++ B ++ ⟨#[59]⟩ ++ word) (by rw [words_size4]; omega) 0 W
          rw [words_rest HBB.out.1 HLT.out, if_pos hwe] at HW3
          have hX : txt [59] = (⟨#[59]⟩ : ByteArray) := rfl
          unfold UpAns UpV at HW3
          simp only [] at HW3
          rw [hX] at HW3
          clear hX hwe
          by_cases he : en > 0
          · have ge : decide (en > 0) = true := decide_eq_true he
            have gei : (0 : Int) < en := he
            have hcv := HCV.out wr
            have HW1 := Lib.hid fun (W : World) => word_is (B ++ word ++ B ++ ⟨#[10]⟩ ++ ⟨#[120]⟩) (by rw [words_size3]; omega) 0 W
            rw [words_one HBB.out.1 HLT.out (.inl rfl)] at HW1
            unfold UpAns UpV at HW1
            simp only [] at HW1
            rw [txt_of] at HW1
            have hz3 : (B ++ word ++ B ++ ⟨#[10]⟩).size ≤ 301 := by rw [words_size2]; omega
            have HB0 := Lib.hid (Below.refl wr.heap.size wr)
            clear he
            go_wp2_with fail
            go_at_call 15
            refine (HW1.out _).mono ?_
            rintro e w1 ⟨rfl, hb⟩
            have HB1 := Lib.hid ((HB0.out.alloc HB0.out.size _).trans (hb.mono (HB0.out.alloc HB0.out.size _).size))
            clear hb hcv hz3
            go_wp2_with fail
            go_at_call 15
            refine (HW2.out _).mono ?_
            rintro e w2 ⟨rfl, hb⟩
            have HB2 := Lib.hid (HB1.out.trans (hb.mono HB1.out.size))
            clear hb
            go_wp2_with fail
            go_at_call 17
            refine (HW3.out _).mono ?_
            rintro e w3 ⟨rfl, hb⟩
            have HB3 := Lib.hid (HB2.out.trans (hb.mono HB2.out.size))
            clear hb
            go_wp2_with fail
            go_at_call 10
            refine (HAL.out _).mono ?_
            rintro e w4 ⟨rfl, hb⟩
            have HB4 := Lib.hid (HB3.out.trans (hb.mono HB3.out.size))
            clear hb
            go_wp2_with fail
            go_ret
            exact ⟨by simp, HB4.out⟩
          · have ge : decide (en > 0) = false := decide_eq_false he
            have gei : en ≤ 0 := by omega
            have HW1 := Lib.hid fun (W : World) => word_is (B ++ word ++ B ++ ⟨#[59]⟩ ++ ⟨#[120]⟩) (by rw [words_size3]; omega) 0 W
            rw [words_one HBB.out.1 HLT.out (.inr rfl)] at HW1
            unfold UpAns UpV at HW1
            simp only [] at HW1
            rw [txt_of] at HW1
            have hz3 : (B ++ word ++ B ++ ⟨#[59]⟩).size ≤ 301 := by rw [words_size2]; omega
            have HB0 := Lib.hid (Below.refl wr.heap.size wr)
            clear he
            go_wp2_with fail
            go_at_call 15
            refine (HW1.out _).mono ?_
            rintro e w1 ⟨rfl, hb⟩
            have HB1 := Lib.hid (HB0.out.trans (hb.mono HB0.out.size))
            clear hb hz3
            go_wp2_with fail
            go_at_call 15
            refine (HW2.out _).mono ?_
            rintro e w2 ⟨rfl, hb⟩
            have HB2 := Lib.hid (HB1.out.trans (hb.mono HB1.out.size))
            clear hb
            go_wp2_with fail
            go_at_call 17
            refine (HW3.out _).mono ?_
            rintro e w3 ⟨rfl, hb⟩
            have HB3 := Lib.hid (HB2.out.trans (hb.mono HB2.out.size))
            clear hb
            go_wp2_with fail
            go_at_call 10
            refine (HAL.out _).mono ?_
            rintro e w4 ⟨rfl, hb⟩
            have HB4 := Lib.hid (HB3.out.trans (hb.mono HB3.out.size))
            clear hb
            go_wp2_with fail
            go_ret
            exact ⟨by simp, HB4.out⟩
        case neg =>
          have gw : word.toList.isEmpty = false := by rw [ByteArray.toList_eq]; cases h : word.data.toList with
            | nil => exact absurd h hwe
            | cons a r => rfl
          have HW3 := Lib.hid fun (W : World) => rest_is (B ++ word ++ B ++ ⟨#[59]⟩ ++ word) (by rw [words_size4]; omega) 0 W
          rw [words_rest HBB.out.1 HLT.out, if_neg hwe] at HW3
          have hX : txt (word.data.toList ++ B.data.toList ++ [59] ++ word.data.toList) = word ++ B ++ ⟨#[59]⟩ ++ word := by
            rw [← txt_append, ← txt_append, ← txt_append, txt_of, txt_of]; rfl
          unfold UpAns UpV at HW3
          simp only [] at HW3
          rw [hX] at HW3
          clear hX hwe
          by_cases he : en > 0
          · have ge : decide (en > 0) = true := decide_eq_true he
            have gei : (0 : Int) < en := he
            have hcv := HCV.out wr
            have HW1 := Lib.hid fun (W : World) => word_is (B ++ word ++ B ++ ⟨#[10]⟩ ++ ⟨#[120]⟩) (by rw [words_size3]; omega) 0 W
            rw [words_one HBB.out.1 HLT.out (.inl rfl)] at HW1
            unfold UpAns UpV at HW1
            simp only [] at HW1
            rw [txt_of] at HW1
            have hz3 : (B ++ word ++ B ++ ⟨#[10]⟩).size ≤ 301 := by rw [words_size2]; omega
            have HB0 := Lib.hid (Below.refl wr.heap.size wr)
            clear he
            go_wp2_with fail
            go_at_call 15
            refine (HW1.out _).mono ?_
            rintro e w1 ⟨rfl, hb⟩
            have HB1 := Lib.hid ((HB0.out.alloc HB0.out.size _).trans (hb.mono (HB0.out.alloc HB0.out.size _).size))
            clear hb hcv hz3
            go_wp2_with fail
            go_at_call 15
            refine (HW2.out _).mono ?_
            rintro e w2 ⟨rfl, hb⟩
            have HB2 := Lib.hid (HB1.out.trans (hb.mono HB1.out.size))
            clear hb
            go_wp2_with fail
            go_at_call 17
            refine (HW3.out _).mono ?_
            rintro e w3 ⟨rfl, hb⟩
            have HB3 := Lib.hid (HB2.out.trans (hb.mono HB2.out.size))
            clear hb
            go_wp2_with fail
            go_at_call 10
            refine (HAL.out _).mono ?_
            rintro e w4 ⟨rfl, hb⟩
            have HB4 := Lib.hid (HB3.out.trans (hb.mono HB3.out.size))
            clear hb
            go_wp2_with fail
            go_ret
            exact ⟨by simp, HB4.out⟩
          · have ge : decide (en > 0) = false := decide_eq_false he
            have gei : en ≤ 0 := by omega
            have HW1 := Lib.hid fun (W : World) => word_is (B ++ word ++ B ++ ⟨#[59]⟩ ++ ⟨#[120]⟩) (by rw [words_size3]; omega) 0 W
            rw [words_one HBB.out.1 HLT.out (.inr rfl)] at HW1
            unfold UpAns UpV at HW1
            simp only [] at HW1
            rw [txt_of] at HW1
            have hz3 : (B ++ word ++ B ++ ⟨#[59]⟩).size ≤ 301 := by rw [words_size2]; omega
            have HB0 := Lib.hid (Below.refl wr.heap.size wr)
            clear he
            go_wp2_with fail
            go_at_call 15
            refine (HW1.out _).mono ?_
            rintro e w1 ⟨rfl, hb⟩
            have HB1 := Lib.hid (HB0.out.trans (hb.mono HB0.out.size))
            clear hb hz3
            go_wp2_with fail
            go_at_call 15
            refine (HW2.out _).mono ?_
            rintro e w2 ⟨rfl, hb⟩
            have HB2 := Lib.hid (HB1.out.trans (hb.mono HB1.out.size))
            clear hb
            go_wp2_with fail
            go_at_call 17
            refine (HW3.out _).mono ?_
            rintro e w3 ⟨rfl, hb⟩
            have HB3 := Lib.hid (HB2.out.trans (hb.mono HB2.out.size))
            clear hb
            go_wp2_with fail
            go_at_call 10
            refine (HAL.out _).mono ?_
            rintro e w4 ⟨rfl, hb⟩
            have HB4 := Lib.hid (HB3.out.trans (hb.mono HB3.out.size))
            clear hb
            go_wp2_with fail
            go_ret
            exact ⟨by simp, HB4.out⟩

end Go.Proofs.Ytkgpicalbpimdaa

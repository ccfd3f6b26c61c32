/-
  The document's Bracket; ClassBrackets. Condition: a text, of no byte.
-/
import Derived.Test.YtpeidgppcdkjdaaCrb22
namespace Go.Proofs.Ytpeidgppcdkjdaa
open Go.RowKit

set_option maxRecDepth 100000 in
set_option maxHeartbeats 64000000 in
theorem rbr_nil (s : ByteArray) (hz : s.size ≤ 2147483648) (h0 : s.size = 0) (r : Option ((Nat → Nat) × Nat)) (hr : BrkP s 0 noS r) (w : World) :
    Calls Try.prog 50 #[.string s] w fun e w' => e = .returned (brkV false r) ∧ Below w.heap.size w w' := by
  have HZ := Lib.hid hz
  have HR := Lib.hid hr
  have HN0 := Lib.hid (Nat.zero_le s.size)
  have h1 : ¬ (0 : Int) < (s.size : Int) := by omega
  have h2 : decide ((0 : Int) < (s.size : Int)) = false := decide_eq_false h1
  have HE := Lib.hid h0
  clear h0
  clear hz hr
  go_enter Try.func50, Try.ntmps50
  go_wp2_with fail
  go_loopw [6, 8, 9, 10, 11, 12, 13] (fun iv fv _ _ _ _ _ wr => RB s r w iv fv wr) (fun iv _ _ _ _ _ _ _ => s.size - (intOf iv).toNat)
  case atStart => exact ⟨0, noS, true, rfl, rfl, OkS.no, HN0.out, brk_start w, .inl ⟨HR.out, .inl rfl⟩⟩
  case round =>
    obtain ⟨n, S, f, rfl, rfl, hS, hn, hW, hcase⟩ := hrel
    have hl : s.data.toList.drop n = [] := List.drop_eq_nil_of_le (by have := HE.out; simp; omega)
    have h1 : (s.size : Int) ≤ (n : Int) := by have := HE.out; omega
    rcases hcase with ⟨hP, hf⟩ | ⟨rfl, hr2, q, hq⟩
    · have HP := Lib.hid hP
      have HW := Lib.hid hW
      have HNA := Lib.hid fun (W : World) => rnm_is s n HZ.out hn W
      have HSG := Lib.hid fun (W : World) => single_is s n f (Nat.le_trans HZ.out (by decide)) W
      rw [sgl_of hf, hl, show byteOf [] = false from rfl] at HSG
      clear hP hf hS hn hW
      cases f with
      | true =>
        go_wp2_with fail
        go_at_call 61
        refine (HNA.out _).mono ?_
        rintro e w1 ⟨A, m, b, rfl, hw1, hcs⟩
        have hWa := HW.out.below hw1
        have HW1 := Lib.hid (hWa.below ((Below.refl _ w1).alloc (Nat.le_refl _) (.cells #[.int .u64 (A 0), .int .u64 (A 1), .int .u64 (A 2), .int .u64 (A 3)] 26)))
        have l0 : w.heap.size < w1.heap.size := Nat.lt_of_lt_of_le (Nat.lt_of_lt_of_le (by omega) HW.out.2.2.2) hw1.size
        have l1 : w.heap.size + 1 < w1.heap.size := Nat.lt_of_lt_of_le (Nat.lt_of_lt_of_le (by omega) HW.out.2.2.2) hw1.size
        have HERB := Lib.hid ((below_st4 hWa.2.2.1 (Nat.le_refl _) noS).alloc (by rw [size_st4]; exact hWa.2.2.1.size) (.cells #[.int .u64 (A 0), .int .u64 (A 1), .int .u64 (A 2), .int .u64 (A 3)] 26))
        obtain ⟨⟨⟨a0, a1, a2, a3⟩, b0, b1, b2, b3⟩, ⟨⟨c0, c1, c2, c3⟩, d0, d1, d2, d3⟩, hBx, hsx⟩ := hWa
        clear hw1
        rcases hcs with ⟨rfl, hA, hpx, _⟩ | ⟨rfl, hno⟩
        · rw [hl] at hpx; cases hpx
        · have HNO := Lib.hid (HP.out.none (by rw [hl]; rfl))
          clear hno hl
          unfold setV
          go_wp2_with fail
          go_at_call 63
          refine (HSG.out _).mono ?_
          rintro e w2 ⟨rfl, rfl⟩
          have HRN := Lib.hid (show brkV false r = .tuple #[setV noS, .int .i64 0, .int .i64 81] by rw [HNO.out]; rfl)
          go_wp2_with fail
          refine bodyPost_ret (v := .tuple #[setV noS, .int .i64 0, .int .i64 81]) (by simp [results, Try.results50, go_sem, setV, noS, a0, a1, a2, a3, l0]) rfl ⟨by rw [HRN.out], ?_⟩
          first | exact HERB.out | exact HERB.out.drew
      | false =>
        go_wp2_with fail
        go_at_call 61
        refine (HNA.out _).mono ?_
        rintro e w1 ⟨A, m, b, rfl, hw1, hcs⟩
        have hWa := HW.out.below hw1
        have HW1 := Lib.hid (hWa.below ((Below.refl _ w1).alloc (Nat.le_refl _) (.cells #[.int .u64 (A 0), .int .u64 (A 1), .int .u64 (A 2), .int .u64 (A 3)] 26)))
        have l0 : w.heap.size < w1.heap.size := Nat.lt_of_lt_of_le (Nat.lt_of_lt_of_le (by omega) HW.out.2.2.2) hw1.size
        have l1 : w.heap.size + 1 < w1.heap.size := Nat.lt_of_lt_of_le (Nat.lt_of_lt_of_le (by omega) HW.out.2.2.2) hw1.size
        have HERB := Lib.hid ((below_st4 hWa.2.2.1 (Nat.le_refl _) noS).alloc (by rw [size_st4]; exact hWa.2.2.1.size) (.cells #[.int .u64 (A 0), .int .u64 (A 1), .int .u64 (A 2), .int .u64 (A 3)] 26))
        obtain ⟨⟨⟨a0, a1, a2, a3⟩, b0, b1, b2, b3⟩, ⟨⟨c0, c1, c2, c3⟩, d0, d1, d2, d3⟩, hBx, hsx⟩ := hWa
        clear hw1
        rcases hcs with ⟨rfl, hA, hpx, _⟩ | ⟨rfl, hno⟩
        · rw [hl] at hpx; cases hpx
        · have HNO := Lib.hid (HP.out.none (by rw [hl]; rfl))
          clear hno hl
          unfold setV
          go_wp2_with fail
          go_at_call 63
          refine (HSG.out _).mono ?_
          rintro e w2 ⟨rfl, rfl⟩
          have HRN := Lib.hid (show brkV false r = .tuple #[setV noS, .int .i64 0, .int .i64 81] by rw [HNO.out]; rfl)
          go_wp2_with fail
          refine bodyPost_ret (v := .tuple #[setV noS, .int .i64 0, .int .i64 81]) (by simp [results, Try.results50, go_sem, setV, noS, a0, a1, a2, a3, l0]) rfl ⟨by rw [HRN.out], ?_⟩
          first | exact HERB.out | exact HERB.out.drew
    · rw [hl] at hq
      cases hq
end Go.Proofs.Ytpeidgppcdkjdaa

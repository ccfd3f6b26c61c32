/-
  The document's answers on sets: Has, add, With, Not, Both, Count. Conditions: words of 64 bits, bytes.
-/
import Derived.Test.YtbehbbmhkkidfaaCbox
namespace Go.Proofs.Ytbehbbmhkkidfaa
open Go.RowKit

theorem rem_test (x r : Nat) : (((x : Int) / 2 ^ r) % 2 == 1) = x.testBit r := by
  have e : ((x : Int) / 2 ^ r) = ((x / 2 ^ r : Nat) : Int) := by simp
  rw [e, Nat.testBit_eq_decide_div_mod_eq]
  rcases Nat.mod_two_eq_zero_or_one (x / 2 ^ r) with h2 | h2
  · rw [show ((x / 2 ^ r : Nat) : Int) % 2 = 0 by omega, h2]; rfl
  · rw [show ((x / 2 ^ r : Nat) : Int) % 2 = 1 by omega, h2]; rfl
set_option maxRecDepth 100000 in
theorem rhas_is (A : Nat → Nat) (c : Nat) (hc : c < 256) (w : World) : Calls Try.prog 19 #[setV A, .int .u8 (c : Int)] w fun e w' => e = .returned (.bool (has A c)) ∧ Below w.heap.size w w' := by
  unfold setV
  have hat := words_at A (c / 64) (by omega)
  go_enter Try.func19, Try.ntmps19
  go_wp2_with fail
  go_ret
  refine ⟨?_, (Below.refl _ w).alloc (Nat.le_refl _) _⟩
  have h := rem_test (A (c / 64)) (c % 64)
  unfold has
  rw [← h]
  rfl

set_option maxRecDepth 100000 in
set_option maxHeartbeats 1000000 in
theorem radd_is (A : Nat → Nat) (c : Nat) (hA : OkS A) (hc : c < 256) (w : World) : Calls Try.prog 18 #[setV A, .int .i64 (c : Int)] w fun e w' => e = .returned (setV (ins A c)) ∧ Below w.heap.size w w' := by
  unfold setV
  have HA := Lib.hid hA
  have hc0 : (0 : Int) ≤ (c : Int) := by omega
  have hc1 : (c : Int) < 256 := by omega
  have q4 : c / 64 = 0 ∨ c / 64 = 1 ∨ c / 64 = 2 ∨ c / 64 = 3 := by omega
  clear hA
  rcases q4 with hq | hq | hq | hq
  · have hb := or_word A HA.out c 0 hq
    go_enter Try.func18, Try.ntmps18
    go_wp2_with fail
    have HQ := hq
    refine bodyPost_ret (v := setV (ins A c)) (by simp [results, Try.results18, go_sem, setV, ins_other A c 1 (by omega), ins_other A c 2 (by omega), ins_other A c 3 (by omega)]) rfl ⟨rfl, ?_⟩
    exact ((Below.refl _ w).alloc (Nat.le_refl _) _).alloc (by simp) _
  · have hb := or_word A HA.out c 1 hq
    go_enter Try.func18, Try.ntmps18
    go_wp2_with fail
    have HQ := hq
    refine bodyPost_ret (v := setV (ins A c)) (by simp [results, Try.results18, go_sem, setV, ins_other A c 0 (by omega), ins_other A c 2 (by omega), ins_other A c 3 (by omega)]) rfl ⟨rfl, ?_⟩
    exact ((Below.refl _ w).alloc (Nat.le_refl _) _).alloc (by simp) _
  · have hb := or_word A HA.out c 2 hq
    go_enter Try.func18, Try.ntmps18
    go_wp2_with fail
    have HQ := hq
    refine bodyPost_ret (v := setV (ins A c)) (by simp [results, Try.results18, go_sem, setV, ins_other A c 0 (by omega), ins_other A c 1 (by omega), ins_other A c 3 (by omega)]) rfl ⟨rfl, ?_⟩
    exact ((Below.refl _ w).alloc (Nat.le_refl _) _).alloc (by simp) _
  · have hb := or_word A HA.out c 3 hq
    go_enter Try.func18, Try.ntmps18
    go_wp2_with fail
    have HQ := hq
    refine bodyPost_ret (v := setV (ins A c)) (by simp [results, Try.results18, go_sem, setV, ins_other A c 0 (by omega), ins_other A c 1 (by omega), ins_other A c 2 (by omega)]) rfl ⟨rfl, ?_⟩
    exact ((Below.refl _ w).alloc (Nat.le_refl _) _).alloc (by simp) _

def RWRel (A : Nat → Nat) (lo hi : Nat) (w : World) (i : Value) (wr : World) : Prop :=
  ∃ n, lo + n ≤ max lo (hi + 1) ∧ i = .int .i64 ((lo + n : Nat) : Int) ∧ BoxF wr w.heap.size (insN A lo n) ∧ BoxF wr (w.heap.size + 1) noS ∧ Below w.heap.size w wr ∧ w.heap.size + 2 ≤ wr.heap.size
set_option maxRecDepth 100000 in
set_option maxHeartbeats 1000000 in
theorem rwith_is (A : Nat → Nat) (lo hi : Nat) (hA : OkS A) (hlo : lo < 256) (hhi : hi < 256) (w : World) : Calls Try.prog 9 #[setV A, .int .u8 (lo : Int), .int .u8 (hi : Int)] w fun e w' => e = .returned (setV (withS A lo hi)) ∧ Below w.heap.size w w' := by
  unfold setV
  have HA := Lib.hid hA
  clear hA
  go_enter Try.func9, Try.ntmps9
  go_wp2_with fail
  go_loopw [7] (fun i wr => RWRel A lo hi w i wr) (fun i _ => 256 - (intOf i).toNat)
  case atStart => exact ⟨0, by omega, rfl, (BoxF.new w A _).alloc (by simp) _, by simpa using BoxF.zero (w.alloc (.cells #[.int .u64 (A 0), .int .u64 (A 1), .int .u64 (A 2), .int .u64 (A 3)] 27)) _, ((Below.refl _ w).alloc (Nat.le_refl _) _).alloc (by simp) _, by simp⟩
  case round =>
    obtain ⟨n, hn, rfl, hb0, hb1, hB, hs⟩ := hrel
    obtain ⟨c, hc⟩ : ∃ c, c = lo + n := ⟨_, rfl⟩
    rw [← hc]
    obtain ⟨B, hBB⟩ : ∃ B, B = insN A lo n := ⟨_, rfl⟩
    rw [← hBB] at hb0
    have HOK := Lib.hid (show OkS B by rw [hBB]; exact HA.out.insN lo n)
    have HBB := Lib.hid hBB
    have HC := Lib.hid hc
    have H0 := Lib.hid hb0
    have H1 := Lib.hid hb1
    have HB := Lib.hid hB
    have HS := Lib.hid hs
    have HN := Lib.hid hn
    obtain ⟨⟨k0, k1, k2, k3⟩, f0, f1, f2, f3⟩ := hb0
    obtain ⟨⟨r0, r1, r2, r3⟩, g0, g1, g2, g3⟩ := hb1
    by_cases hlt : c ≤ hi
    · have hle : (c : Int) ≤ (hi : Int) := by omega
      have hw : wrap64 ((c : Int) + 1) = (c : Int) + 1 := IntWalk.wrap64_in _ (by omega)
      have HADD := Lib.hid fun (W : World) => radd_is B c HOK.out (by omega) W
      unfold setV at HADD
      clear hc hn hBB hB hs r0 r1 r2 r3 g0 g1 g2 g3
      go_wp2_with fail
      go_at_call 18
      refine (HADD.out _).mono ?_
      rintro e w1 ⟨rfl, hb⟩
      have h0 := H0.out.below hb (by have := HS.out; omega)
      have HX0 := Lib.hid (h0.st (ins B c))
      have HX1 := Lib.hid ((H1.out.below hb (by have := HS.out; omega)).other (b' := w.heap.size) (by omega) (ins B c))
      have HXB := Lib.hid (below_st4 (HB.out.trans (hb.mono HB.out.size)) (Nat.le_refl _) (ins B c))
      have HXS := Lib.hid (show w.heap.size + 2 ≤ (st4 w1 w.heap.size (ins B c)).heap.size by rw [size_st4]; exact Nat.le_trans HS.out hb.size)
      clear k0 k1 k2 k3 f0 f1 f2 f3 hb
      obtain ⟨⟨k0, k1, k2, k3⟩, f0, f1, f2, f3⟩ := h0
      go_wp2_with fail
      refine ⟨⟨n + 1, by have := HC.out; omega, by rw [HC.out]; congr 1, ?_, HX1.out, HXB.out, HXS.out⟩, by simp only [intOf]; omega⟩
      have := HX0.out
      rw [show ins B c = insN A lo (n + 1) by rw [HBB.out, HC.out]; rfl] at this
      rw [show ins B c = insN A lo (n + 1) by rw [HBB.out, HC.out]; rfl]
      exact this
    · have hle : (hi : Int) < (c : Int) := by omega
      have hW := Lib.hid (show withS A lo hi = B by rw [HBB.out]; unfold withS; congr 1; omega)
      clear hc hn hBB hB hs hlt
      go_wp2_with fail
      refine bodyPost_ret (v := setV B) (by simp [results, Try.results9, go_sem, setV, r0, r1, r2, r3]) rfl ⟨by rw [hW.out]; rfl, ?_⟩
      exact below_st4 HB.out (Nat.le_succ _) B

end Go.Proofs.Ytbehbbmhkkidfaa

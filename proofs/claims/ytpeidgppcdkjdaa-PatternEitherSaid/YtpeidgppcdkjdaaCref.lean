/-
  The document's answers on sets: Has, add, With, Not, Both, Count. Conditions: words of 64 bits, bytes.
-/
import Derived.Test.YtpeidgppcdkjdaaCbox
namespace Go.Proofs.Ytpeidgppcdkjdaa
open Go.RowKit

theorem rem_test (x r : Nat) : (((x : Int) / 2 ^ r) % 2 == 1) = x.testBit r := by
  have e : ((x : Int) / 2 ^ r) = ((x / 2 ^ r : Nat) : Int) := by simp
  rw [e, Nat.testBit_eq_decide_div_mod_eq]
  rcases Nat.mod_two_eq_zero_or_one (x / 2 ^ r) with h2 | h2
  · rw [show ((x / 2 ^ r : Nat) : Int) % 2 = 0 by omega, h2]; rfl
  · rw [show ((x / 2 ^ r : Nat) : Int) % 2 = 1 by omega, h2]; rfl
set_option maxRecDepth 100000 in
theorem rhas_is (A : Nat → Nat) (c : Nat) (hc : c < 256) (w : World) : Calls Try.prog 23 #[setV A, .int .u8 (c : Int)] w fun e w' => e = .returned (.bool (has A c)) ∧ Below w.heap.size w w' := by
  unfold setV
  have hat := words_at A (c / 64) (by omega)
  go_enter Try.func23, Try.ntmps23
  go_wp2_with fail
  go_ret
  refine ⟨?_, (Below.refl _ w).alloc (Nat.le_refl _) _⟩
  have h := rem_test (A (c / 64)) (c % 64)
  unfold has
  rw [← h]
  rfl

set_option maxRecDepth 100000 in
set_option maxHeartbeats 1000000 in
theorem radd_is (A : Nat → Nat) (c : Nat) (hA : OkS A) (hc : c < 256) (w : World) : Calls Try.prog 22 #[setV A, .int .i64 (c : Int)] w fun e w' => e = .returned (setV (ins A c)) ∧ Below w.heap.size w w' := by
  unfold setV
  have HA := Lib.hid hA
  have hc0 : (0 : Int) ≤ (c : Int) := by omega
  have hc1 : (c : Int) < 256 := by omega
  have q4 : c / 64 = 0 ∨ c / 64 = 1 ∨ c / 64 = 2 ∨ c / 64 = 3 := by omega
  clear hA
  rcases q4 with hq | hq | hq | hq
  · have hb := or_word A HA.out c 0 hq
    go_enter Try.func22, Try.ntmps22
    go_wp2_with fail
    have HQ := hq
    refine bodyPost_ret (v := setV (ins A c)) (by simp [results, Try.results22, go_sem, setV, ins_other A c 1 (by omega), ins_other A c 2 (by omega), ins_other A c 3 (by omega)]) rfl ⟨rfl, ?_⟩
    exact ((Below.refl _ w).alloc (Nat.le_refl _) _).alloc (by simp) _
  · have hb := or_word A HA.out c 1 hq
    go_enter Try.func22, Try.ntmps22
    go_wp2_with fail
    have HQ := hq
    refine bodyPost_ret (v := setV (ins A c)) (by simp [results, Try.results22, go_sem, setV, ins_other A c 0 (by omega), ins_other A c 2 (by omega), ins_other A c 3 (by omega)]) rfl ⟨rfl, ?_⟩
    exact ((Below.refl _ w).alloc (Nat.le_refl _) _).alloc (by simp) _
  · have hb := or_word A HA.out c 2 hq
    go_enter Try.func22, Try.ntmps22
    go_wp2_with fail
    have HQ := hq
    refine bodyPost_ret (v := setV (ins A c)) (by simp [results, Try.results22, go_sem, setV, ins_other A c 0 (by omega), ins_other A c 1 (by omega), ins_other A c 3 (by omega)]) rfl ⟨rfl, ?_⟩
    exact ((Below.refl _ w).alloc (Nat.le_refl _) _).alloc (by simp) _
  · have hb := or_word A HA.out c 3 hq
    go_enter Try.func22, Try.ntmps22
    go_wp2_with fail
    have HQ := hq
    refine bodyPost_ret (v := setV (ins A c)) (by simp [results, Try.results22, go_sem, setV, ins_other A c 0 (by omega), ins_other A c 1 (by omega), ins_other A c 2 (by omega)]) rfl ⟨rfl, ?_⟩
    exact ((Below.refl _ w).alloc (Nat.le_refl _) _).alloc (by simp) _

def RWRel (A : Nat → Nat) (lo hi : Nat) (w : World) (i : Value) (wr : World) : Prop :=
  ∃ n, lo + n ≤ max lo (hi + 1) ∧ i = .int .i64 ((lo + n : Nat) : Int) ∧ BoxF wr w.heap.size (insN A lo n) ∧ BoxF wr (w.heap.size + 1) noS ∧ Below w.heap.size w wr ∧ w.heap.size + 2 ≤ wr.heap.size
set_option maxRecDepth 100000 in
set_option maxHeartbeats 1000000 in
theorem rwith_is (A : Nat → Nat) (lo hi : Nat) (hA : OkS A) (hlo : lo < 256) (hhi : hi < 256) (w : World) : Calls Try.prog 14 #[setV A, .int .u8 (lo : Int), .int .u8 (hi : Int)] w fun e w' => e = .returned (setV (withS A lo hi)) ∧ Below w.heap.size w w' := by
  unfold setV
  have HA := Lib.hid hA
  clear hA
  go_enter Try.func14, Try.ntmps14
  go_wp2_with fail
  go_loopw [7] (fun i wr => RWRel A lo hi w i wr) (fun i _ => 256 - (intOf i).toNat)
  case atStart => exact ⟨0, by omega, rfl, (BoxF.new w A _).alloc (by simp) _, by simpa using BoxF.zero (w.alloc (.cells #[.int .u64 (A 0), .int .u64 (A 1), .int .u64 (A 2), .int .u64 (A 3)] 26)) _, ((Below.refl _ w).alloc (Nat.le_refl _) _).alloc (by simp) _, by simp⟩
  case round =>
    obtain ⟨n, hn, rfl, hb0, hb1, hB, hs⟩ := hrel
    obtain ⟨c, hc⟩ : ∃ c, c = lo + n := ⟨_, rfl⟩
    rw [← hc]
    obtain ⟨B, hBB⟩ : ∃ B, B = insN A lo n := ⟨_, rfl⟩
    rw [← hBB] at hb0
    have HOK := Lib.hid (show OkS B by rw [hBB]; exact HA.out.insN lo n)
    have HBB := Lib.hid hBB
    have HC := Lib.hid hc
    have H0 := Lib.hid hb0
    have H1 := Lib.hid hb1
    have HB := Lib.hid hB
    have HS := Lib.hid hs
    have HN := Lib.hid hn
    obtain ⟨⟨k0, k1, k2, k3⟩, f0, f1, f2, f3⟩ := hb0
    obtain ⟨⟨r0, r1, r2, r3⟩, g0, g1, g2, g3⟩ := hb1
    by_cases hlt : c ≤ hi
    · have hle : (c : Int) ≤ (hi : Int) := by omega
      have hw : wrap64 ((c : Int) + 1) = (c : Int) + 1 := IntWalk.wrap64_in _ (by omega)
      have HADD := Lib.hid fun (W : World) => radd_is B c HOK.out (by omega) W
      unfold setV at HADD
      clear hc hn hBB hB hs r0 r1 r2 r3 g0 g1 g2 g3
      go_wp2_with fail
      go_at_call 22
      refine (HADD.out _).mono ?_
      rintro e w1 ⟨rfl, hb⟩
      have h0 := H0.out.below hb (by have := HS.out; omega)
      have HX0 := Lib.hid (h0.st (ins B c))
      have HX1 := Lib.hid ((H1.out.below hb (by have := HS.out; omega)).other (b' := w.heap.size) (by omega) (ins B c))
      have HXB := Lib.hid (below_st4 (HB.out.trans (hb.mono HB.out.size)) (Nat.le_refl _) (ins B c))
      have HXS := Lib.hid (show w.heap.size + 2 ≤ (st4 w1 w.heap.size (ins B c)).heap.size by rw [size_st4]; exact Nat.le_trans HS.out hb.size)
      clear k0 k1 k2 k3 f0 f1 f2 f3 hb
      obtain ⟨⟨k0, k1, k2, k3⟩, f0, f1, f2, f3⟩ := h0
      go_wp2_with fail
      refine ⟨⟨n + 1, by have := HC.out; omega, by rw [HC.out]; congr 1, ?_, HX1.out, HXB.out, HXS.out⟩, by simp only [intOf]; omega⟩
      have := HX0.out
      rw [show ins B c = insN A lo (n + 1) by rw [HBB.out, HC.out]; rfl] at this
      rw [show ins B c = insN A lo (n + 1) by rw [HBB.out, HC.out]; rfl]
      exact this
    · have hle : (hi : Int) < (c : Int) := by omega
      have hW := Lib.hid (show withS A lo hi = B by rw [HBB.out]; unfold withS; congr 1; omega)
      clear hc hn hBB hB hs hlt
      go_wp2_with fail
      refine bodyPost_ret (v := setV B) (by simp [results, Try.results14, go_sem, setV, r0, r1, r2, r3]) rfl ⟨by rw [hW.out]; rfl, ?_⟩
      exact below_st4 HB.out (Nat.le_succ _) B

theorem zero_at (w : World) (t : TypeId) {b : Nat} (hb : b = w.heap.size) : BoxF (w.alloc (.cells #[.int .u64 0, .int .u64 0, .int .u64 0, .int .u64 0] t)) b noS := by subst hb; exact BoxF.zero w t
def BldRel (f : Nat → Bool) (w : World) (bo br : Nat) (i : Value) (wr : World) : Prop :=
  ∃ n : Nat, n ≤ 256 ∧ i = .int .i64 (n : Int) ∧ BoxF wr bo (bld f n) ∧ BoxF wr br noS ∧ Below w.heap.size w wr ∧ bo < wr.heap.size ∧ br < wr.heap.size
theorem bld_yes {f : Nat → Bool} {n : Nat} (h : f n = true) : bld f (n + 1) = ins (bld f n) n := by rw [bld, if_pos h]
theorem bld_no {f : Nat → Bool} {n : Nat} (h : f n = false) : bld f (n + 1) = bld f n := by rw [bld, if_neg (by rw [h]; exact Bool.false_ne_true)]
theorem BldRel.yes {f : Nat → Bool} {w w1 wr : World} {bo br n : Nat} (h0 : BoxF wr bo (bld f n)) (h1 : BoxF wr br noS) (hB : Below w.heap.size w wr) (l0 : bo < wr.heap.size) (l1 : br < wr.heap.size) (hb : Below wr.heap.size wr w1) (hn : n < 256) (hne : br ≠ bo) (hw : w.heap.size ≤ bo) (hf : f n = true) :
    BldRel f w bo br (.int .i64 ((n + 1 : Nat) : Int)) (st4 w1 bo (ins (bld f n) n)) := by
  refine ⟨n + 1, hn, rfl, ?_, (h1.below hb l1).other hne _, below_st4 (hB.trans (hb.mono hB.size)) hw _, by rw [size_st4]; exact Nat.lt_of_lt_of_le l0 hb.size, by rw [size_st4]; exact Nat.lt_of_lt_of_le l1 hb.size⟩
  rw [bld_yes hf]
  exact (h0.below hb l0).st _
theorem BldRel.no {f : Nat → Bool} {w w1 wr : World} {bo br n : Nat} (h0 : BoxF wr bo (bld f n)) (h1 : BoxF wr br noS) (hB : Below w.heap.size w wr) (l0 : bo < wr.heap.size) (l1 : br < wr.heap.size) (hb : Below wr.heap.size wr w1) (hn : n < 256) (hf : f n = false) :
    BldRel f w bo br (.int .i64 ((n + 1 : Nat) : Int)) w1 := by
  refine ⟨n + 1, hn, rfl, ?_, h1.below hb l1, hB.trans (hb.mono hB.size), Nat.lt_of_lt_of_le l0 hb.size, Nat.lt_of_lt_of_le l1 hb.size⟩
  rw [bld_no hf]
  exact h0.below hb l0
set_option maxRecDepth 100000 in
set_option maxHeartbeats 1000000 in
theorem rnot_is (A : Nat → Nat) (hA : OkS A) (w : World) : Calls Try.prog 64 #[setV A] w fun e w' => e = .returned (setV (notS A)) ∧ Below w.heap.size w w' := by
  rw [← bld_not A hA]
  unfold setV
  clear hA
  obtain ⟨f, hf⟩ : ∃ f : Nat → Bool, f = fun c => !has A c := ⟨_, rfl⟩
  rw [← hf]
  have HF := Lib.hid hf
  clear hf
  go_enter Try.func64, Try.ntmps64
  go_wp2_with fail
  go_loopw [4, 5] (fun i _ wr => BldRel f w (w.heap.size + 2) (w.heap.size + 1) i wr ∧ BoxF wr w.heap.size A) (fun i _ _ => 256 - (intOf i).toNat)
  case atStart =>
    refine ⟨⟨0, by decide, rfl, ?_, ?_, (((Below.refl _ w).alloc (Nat.le_refl _) _).alloc (by simp) _).alloc (by simp; omega) _, by simp, by simp⟩, ((BoxF.new w A _).alloc (by simp) _).alloc (by simp; omega) _⟩
    · exact zero_at _ _ (by simp)
    · exact (zero_at _ _ (by simp)).alloc (by simp) _
  case round =>
    obtain ⟨⟨n, hn, rfl, hb0, hb1, hB, hs0, hs1⟩, hba⟩ := hrel
    have H0 := Lib.hid hb0
    have H1 := Lib.hid hb1
    have HB := Lib.hid hB
    have HS := Lib.hid (And.intro hs0 hs1)
    have HBA := Lib.hid hba
    have HSA := Lib.hid (show w.heap.size < wr.heap.size by omega)
    clear hs0 hs1
    by_cases hlt : n < 256
    · have hle : (n : Int) < 256 := by omega
      have hu : IntKind.u8.wrap (n : Int) = (n : Int) := IntWalk.u8_in _ (by omega)
      have hw : wrap64 ((n : Int) + 1) = (n : Int) + 1 := IntWalk.wrap64_in _ (by omega)
      have HHAS := Lib.hid fun (W : World) => rhas_is A n hlt W
      have HADD := Lib.hid fun (W : World) => radd_is (bld f n) n (OkS.bld f n) hlt W
      unfold setV at HADD HHAS
      obtain ⟨⟨k0, k1, k2, k3⟩, f0, f1, f2, f3⟩ := hba
      clear hb0 hb1 hB
      go_wp2_with fail
      go_at_call 23
      refine (HHAS.out _).mono ?_
      rintro e w1 ⟨rfl, hw1⟩
      have HX0 := Lib.hid (H0.out.below hw1 HS.out.1)
      have HX1 := Lib.hid (H1.out.below hw1 HS.out.2)
      have HXA := Lib.hid (HBA.out.below hw1 HSA.out)
      have HXB := Lib.hid (HB.out.trans (hw1.mono HB.out.size))
      have HXS := Lib.hid (And.intro (Nat.lt_of_lt_of_le HS.out.1 hw1.size) (And.intro (Nat.lt_of_lt_of_le HS.out.2 hw1.size) (Nat.lt_of_lt_of_le HSA.out hw1.size)))
      have hft : f n = !has A n := by rw [HF.out]
      clear hw1 k0 k1 k2 k3 f0 f1 f2 f3
      cases hx : has A n with
      | true =>
        rw [hx] at hft
        have HFT := Lib.hid hft
        clear hft hx
        go_wp2_with fail
        exact ⟨⟨BldRel.no HX0.out HX1.out HXB.out HXS.out.1 HXS.out.2.1 (Below.refl _ _) hlt HFT.out, HXA.out⟩, by simp only [intOf]; omega⟩
      | false =>
        rw [hx] at hft
        have HFT := Lib.hid hft
        clear hft hx
        obtain ⟨⟨k0, k1, k2, k3⟩, f0, f1, f2, f3⟩ := HX0.out
        go_wp2_with fail
        go_at_call 22
        refine (HADD.out _).mono ?_
        rintro e w2 ⟨rfl, hw2⟩
        have HY := Lib.hid (BldRel.yes HX0.out HX1.out HXB.out HXS.out.1 HXS.out.2.1 hw2 hlt (by omega) (by omega) HFT.out)
        have HYA := Lib.hid ((HXA.out.below hw2 HXS.out.2.2).other (b' := w.heap.size + 2) (by omega) (ins (bld f n) n))
        clear k0 k1 k2 k3 f0 f1 f2 f3
        obtain ⟨⟨k0, k1, k2, k3⟩, f0, f1, f2, f3⟩ := HX0.out.below hw2 HXS.out.1
        clear hw2
        go_wp2_with fail
        exact ⟨⟨HY.out, HYA.out⟩, by simp only [intOf]; omega⟩
    · have hle : (256 : Int) ≤ (n : Int) := by omega
      have hn6 : n = 256 := by omega
      subst hn6
      obtain ⟨⟨k0, k1, k2, k3⟩, f0, f1, f2, f3⟩ := hb0
      obtain ⟨⟨r0, r1, r2, r3⟩, g0, g1, g2, g3⟩ := hb1
      clear hB hba hn hlt
      go_wp2_with fail
      refine bodyPost_ret (v := setV (bld f 256)) (by simp [results, Try.results64, go_sem, setV, r0, r1, r2, r3]) rfl ⟨rfl, ?_⟩
      exact below_st4 HB.out (Nat.le_succ _) (bld f 256)
set_option maxRecDepth 100000 in
set_option maxHeartbeats 1000000 in
theorem rboth_is (A B : Nat → Nat) (hA : OkS A) (hB : OkS B) (w : World) : Calls Try.prog 62 #[setV A, setV B] w fun e w' => e = .returned (setV (bothS A B)) ∧ Below w.heap.size w w' := by
  rw [← bld_both A B hA hB]
  unfold setV
  clear hA hB
  obtain ⟨f, hf⟩ : ∃ f : Nat → Bool, f = fun c => has A c || has B c := ⟨_, rfl⟩
  rw [← hf]
  have HF := Lib.hid hf
  clear hf
  go_enter Try.func62, Try.ntmps62
  go_wp2_with fail
  go_loopw [6, 7, 8] (fun i _ _ wr => BldRel f w (w.heap.size + 3) (w.heap.size + 2) i wr ∧ BoxF wr w.heap.size A ∧ BoxF wr (w.heap.size + 1) B) (fun i _ _ _ => 256 - (intOf i).toNat)
  case atStart =>
    refine ⟨⟨0, by decide, rfl, ?_, ?_, ((((Below.refl _ w).alloc (Nat.le_refl _) _).alloc (by simp) _).alloc (by first | (simp; done) | (simp; omega)) _).alloc (by first | (simp; done) | (simp; omega)) _, by simp, by simp⟩, (((BoxF.new w A _).alloc (by simp) _).alloc (by first | (simp; done) | (simp; omega)) _).alloc (by first | (simp; done) | (simp; omega)) _, ?_⟩
    · exact zero_at _ _ (by simp)
    · exact (zero_at _ _ (by simp)).alloc (by simp) _
    · have := ((BoxF.new (w.alloc (.cells #[.int .u64 (A 0), .int .u64 (A 1), .int .u64 (A 2), .int .u64 (A 3)] 26)) B 26).alloc (by simp) (.cells #[.int .u64 0, .int .u64 0, .int .u64 0, .int .u64 0] 26)).alloc (by first | (simp; done) | (simp; omega)) (.cells #[.int .u64 0, .int .u64 0, .int .u64 0, .int .u64 0] 26)
      rwa [World.size_alloc] at this
  case round =>
    obtain ⟨⟨n, hn, rfl, hb0, hb1, hB, hs0, hs1⟩, hba, hbb⟩ := hrel
    have H0 := Lib.hid hb0
    have H1 := Lib.hid hb1
    have HB := Lib.hid hB
    have HS := Lib.hid (And.intro hs0 hs1)
    have HBA := Lib.hid hba
    have HBB := Lib.hid hbb
    have HSA := Lib.hid (show w.heap.size < wr.heap.size by omega)
    have HSB := Lib.hid (show w.heap.size + 1 < wr.heap.size by omega)
    clear hs0 hs1
    by_cases hlt : n < 256
    · have hle : (n : Int) < 256 := by omega
      have hu : IntKind.u8.wrap (n : Int) = (n : Int) := IntWalk.u8_in _ (by omega)
      have hw : wrap64 ((n : Int) + 1) = (n : Int) + 1 := IntWalk.wrap64_in _ (by omega)
      have HHA := Lib.hid fun (W : World) => rhas_is A n hlt W
      have HHB := Lib.hid fun (W : World) => rhas_is B n hlt W
      have HADD := Lib.hid fun (W : World) => radd_is (bld f n) n (OkS.bld f n) hlt W
      unfold setV at HADD HHA HHB
      obtain ⟨⟨k0, k1, k2, k3⟩, f0, f1, f2, f3⟩ := hba
      clear hb0 hb1 hB hbb
      go_wp2_with fail
      go_at_call 23
      refine (HHA.out _).mono ?_
      rintro e w1 ⟨rfl, hw1⟩
      clear k0 k1 k2 k3 f0 f1 f2 f3
      obtain ⟨⟨k0, k1, k2, k3⟩, f0, f1, f2, f3⟩ := HBB.out.below hw1 HSB.out
      have HW1 := Lib.hid hw1
      clear hw1
      go_wp2_with fail
      go_at_call 23
      refine (HHB.out _).mono ?_
      rintro e w2 ⟨rfl, hw2⟩
      have hw1 := HW1.out.trans (hw2.mono HW1.out.size)
      have HX0 := Lib.hid (H0.out.below hw1 HS.out.1)
      have HX1 := Lib.hid (H1.out.below hw1 HS.out.2)
      have HXA := Lib.hid (HBA.out.below hw1 HSA.out)
      have HXBB := Lib.hid (HBB.out.below hw1 HSB.out)
      have HXB := Lib.hid (HB.out.trans (hw1.mono HB.out.size))
      have HXS := Lib.hid (And.intro (Nat.lt_of_lt_of_le HS.out.1 hw1.size) (And.intro (Nat.lt_of_lt_of_le HS.out.2 hw1.size) (And.intro (Nat.lt_of_lt_of_le HSA.out hw1.size) (Nat.lt_of_lt_of_le HSB.out hw1.size))))
      have hft : f n = (has A n || has B n) := by rw [HF.out]
      obtain ⟨x, hx⟩ : ∃ x, x = has A n := ⟨_, rfl⟩
      obtain ⟨y, hy⟩ : ∃ y, y = has B n := ⟨_, rfl⟩
      rw [← hx, ← hy] at hft
      rw [← hx, ← hy]
      clear hw1 hw2 k0 k1 k2 k3 f0 f1 f2 f3 hx hy
      cases x with
      | true =>
        have HFT := Lib.hid (show f n = true by rw [hft]; rfl)
        clear hft
        obtain ⟨⟨k0, k1, k2, k3⟩, f0, f1, f2, f3⟩ := HX0.out
        go_wp2_with fail
        go_at_call 22
        refine (HADD.out _).mono ?_
        rintro e w3 ⟨rfl, hw3⟩
        have HY := Lib.hid (BldRel.yes HX0.out HX1.out HXB.out HXS.out.1 HXS.out.2.1 hw3 hlt (by omega) (by omega) HFT.out)
        have HYA := Lib.hid ((HXA.out.below hw3 HXS.out.2.2.1).other (b' := w.heap.size + 3) (by omega) (ins (bld f n) n))
        have HYB := Lib.hid ((HXBB.out.below hw3 HXS.out.2.2.2).other (b' := w.heap.size + 3) (by omega) (ins (bld f n) n))
        clear k0 k1 k2 k3 f0 f1 f2 f3
        obtain ⟨⟨k0, k1, k2, k3⟩, f0, f1, f2, f3⟩ := HX0.out.below hw3 HXS.out.1
        clear hw3
        go_wp2_with fail
        exact ⟨⟨HY.out, HYA.out, HYB.out⟩, by simp only [intOf]; omega⟩
      | false =>
        cases y with
        | true =>
          have HFT := Lib.hid (show f n = true by rw [hft]; rfl)
          clear hft
          obtain ⟨⟨k0, k1, k2, k3⟩, f0, f1, f2, f3⟩ := HX0.out
          go_wp2_with fail
          go_at_call 22
          refine (HADD.out _).mono ?_
          rintro e w3 ⟨rfl, hw3⟩
          have HY := Lib.hid (BldRel.yes HX0.out HX1.out HXB.out HXS.out.1 HXS.out.2.1 hw3 hlt (by omega) (by omega) HFT.out)
          have HYA := Lib.hid ((HXA.out.below hw3 HXS.out.2.2.1).other (b' := w.heap.size + 3) (by omega) (ins (bld f n) n))
          have HYB := Lib.hid ((HXBB.out.below hw3 HXS.out.2.2.2).other (b' := w.heap.size + 3) (by omega) (ins (bld f n) n))
          clear k0 k1 k2 k3 f0 f1 f2 f3
          obtain ⟨⟨k0, k1, k2, k3⟩, f0, f1, f2, f3⟩ := HX0.out.below hw3 HXS.out.1
          clear hw3
          go_wp2_with fail
          exact ⟨⟨HY.out, HYA.out, HYB.out⟩, by simp only [intOf]; omega⟩
        | false =>
          have HFT := Lib.hid (show f n = false by rw [hft]; rfl)
          clear hft
          go_wp2_with fail
          exact ⟨⟨BldRel.no HX0.out HX1.out HXB.out HXS.out.1 HXS.out.2.1 (Below.refl _ _) hlt HFT.out, HXA.out, HXBB.out⟩, by simp only [intOf]; omega⟩
    · have hle : (256 : Int) ≤ (n : Int) := by omega
      have hn6 : n = 256 := by omega
      subst hn6
      obtain ⟨⟨k0, k1, k2, k3⟩, f0, f1, f2, f3⟩ := hb0
      obtain ⟨⟨r0, r1, r2, r3⟩, g0, g1, g2, g3⟩ := hb1
      clear hB hba hbb hn hlt
      go_wp2_with fail
      refine bodyPost_ret (v := setV (bld f 256)) (by simp [results, Try.results62, go_sem, setV, r0, r1, r2, r3]) rfl ⟨rfl, ?_⟩
      exact below_st4 HB.out (by omega) (bld f 256)

def RCntRel (A : Nat → Nat) (w : World) (n i : Value) (wr : World) : Prop :=
  ∃ k : Nat, k ≤ 256 ∧ i = .int .i64 (k : Int) ∧ n = .int .i64 ((cnt (has A) k : Nat) : Int) ∧ BoxF wr w.heap.size A ∧ Below w.heap.size w wr ∧ w.heap.size < wr.heap.size
theorem cnt_le (f : Nat → Bool) (n : Nat) : cnt f n ≤ n := by have := cnt_both f n; omega
end Go.Proofs.Ytpeidgppcdkjdaa

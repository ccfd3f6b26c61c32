/-
  The document's Named; ClassNames. No condition.
-/
import Derived.Test.YtkcijfimeidiaaaCnames
import Derived.Test.YtkcijfimeidiaaaCin
import Derived.Test.YtkcijfimeidiaaaCref
namespace Go.Proofs.Ytkcijfimeidiaaa
open Go.RowKit

theorem bld_name (l : List UInt8) (h : isName l = true) : setV (bld (fun c => decide (inS l c = 1)) 256) = setV (nameS l) := by
  refine bld_eq (nameS_ok l) fun c _ => ?_
  rw [in_has l h c]
  cases has (nameS l) c <;> rfl
def RNRel (f : Nat → Bool) (w : World) (i : Value) (wr : World) : Prop := BldRel f w (w.heap.size + 1) w.heap.size i wr
set_option maxRecDepth 100000 in
set_option maxHeartbeats 2000000 in
theorem rnamed_is (name : ByteArray) (w : World) : Calls Try.prog 46 #[.string name] w fun e w' => e = .returned (.tuple #[setV (nameS name.toList), .bool (isName name.toList)]) ∧ Below w.heap.size w w' := by
  cases hn : isName name.toList with
  | false =>
    rw [named_none _ hn]
    have HI := Lib.hid fun (W : World) => in_is name 0 (by decide) W
    have h1 : inS name.toList 0 = -1 := by
      have h := hn
      unfold isName at h
      simp only [Bool.or_eq_false_iff, beq_eq_false_iff_ne, ne_eq, and_assoc] at h
      obtain ⟨h0, h1, h2, h3, h4, h5, h6, h7, h8, h9, h10, h11⟩ := h
      unfold inS
      rw [if_neg h0, if_neg h1, if_neg h2, if_neg h3, if_neg h4, if_neg h5, if_neg h6, if_neg h7, if_neg h8, if_neg h9, if_neg h10, if_neg h11]
    rw [h1] at HI
    simp only [Int.cast_ofNat_Int] at HI
    clear h1 hn
    unfold setV noS
    go_enter Try.func46, Try.ntmps46
    go_wp2_with fail
    go_loopw [5, 6] (fun i _ wr => i = .int .i64 0 ∧ wr = (w.alloc (.cells #[.int .u64 0, .int .u64 0, .int .u64 0, .int .u64 0] 69)).alloc (.cells #[.int .u64 0, .int .u64 0, .int .u64 0, .int .u64 0] 69)) (fun i _ _ => 256 - (intOf i).toNat)
    case atStart => exact ⟨rfl, rfl⟩
    case round =>
      obtain ⟨rfl, rfl⟩ := hrel
      go_wp2_with fail
      go_at_call 65
      refine (HI.out _).mono ?_
      rintro e w1 ⟨rfl, rfl⟩
      go_wp2_with fail
      refine bodyPost_ret (v := .tuple #[setV noS, .bool false]) (by simp [results, Try.results46, go_sem, setV, noS]) rfl ⟨rfl, ?_⟩
      exact ((Below.refl _ w).alloc (Nat.le_refl _) _).alloc (by simp) _
  | true =>
    rw [← bld_name _ hn]
    unfold setV
    obtain ⟨f, hf⟩ : ∃ f : Nat → Bool, f = fun c => decide (inS name.toList c = 1) := ⟨_, rfl⟩
    rw [← hf]
    have HF := Lib.hid hf
    have HNM := Lib.hid hn
    clear hf hn
    go_enter Try.func46, Try.ntmps46
    go_wp2_with fail
    go_loopw [5, 6] (fun i _ wr => RNRel f w i wr) (fun i _ _ => 256 - (intOf i).toNat)
    case atStart =>
      exact ⟨0, by decide, rfl, zero_at _ _ (by simp), (zero_at _ _ rfl).alloc (by simp) _, ((Below.refl _ w).alloc (Nat.le_refl _) _).alloc (by simp) _, by simp, by first | (simp; done) | (simp; omega)⟩
    case round =>
      obtain ⟨n, hn, rfl, hb0, hb1, hB, hs0, hs1⟩ := hrel
      have H0 := Lib.hid hb0
      have H1 := Lib.hid hb1
      have HB := Lib.hid hB
      have HS := Lib.hid (And.intro hs0 hs1)
      clear hs0 hs1
      by_cases hlt : n < 256
      · have hle : (n : Int) < 256 := by omega
        have hw : wrap64 ((n : Int) + 1) = (n : Int) + 1 := IntWalk.wrap64_in _ (by omega)
        have HI := Lib.hid fun (W : World) => in_is name n hlt W
        have HADD := Lib.hid fun (W : World) => radd_is (bld f n) n (OkS.bld f n) hlt W
        unfold setV at HADD
        have hfn : f n = decide (inS name.toList n = 1) := by rw [HF.out]
        clear hb0 hb1 hB
        cases hx : has (nameS name.toList) n with
        | true =>
          have hi : inS name.toList n = 1 := by rw [in_has _ HNM.out, hx]; rfl
          rw [hi] at hfn HI
          have HFT := Lib.hid (show f n = true by rw [hfn]; rfl)
          clear hfn hi hx
          obtain ⟨⟨k0, k1, k2, k3⟩, f0, f1, f2, f3⟩ := H0.out
          go_wp2_with fail
          go_at_call 65
          refine (HI.out _).mono ?_
          rintro e w1 ⟨rfl, rfl⟩
          go_wp2_with fail
          go_at_call 62
          refine (HADD.out _).mono ?_
          rintro e w2 ⟨rfl, hw2⟩
          have HY := Lib.hid (BldRel.yes H0.out H1.out HB.out HS.out.1 HS.out.2 hw2 hlt (by omega) (by omega) HFT.out)
          clear k0 k1 k2 k3 f0 f1 f2 f3
          obtain ⟨⟨k0, k1, k2, k3⟩, f0, f1, f2, f3⟩ := H0.out.below hw2 HS.out.1
          clear hw2
          go_wp2_with fail
          exact ⟨HY.out, by simp only [intOf]; omega⟩
        | false =>
          have hi : inS name.toList n = 0 := by rw [in_has _ HNM.out, hx]; rfl
          rw [hi] at hfn HI
          have HFT := Lib.hid (show f n = false by rw [hfn]; rfl)
          clear hfn hi hx
          go_wp2_with fail
          go_at_call 65
          refine (HI.out _).mono ?_
          rintro e w1 ⟨rfl, rfl⟩
          go_wp2_with fail
          exact ⟨BldRel.no H0.out H1.out HB.out HS.out.1 HS.out.2 (Below.refl _ _) hlt HFT.out, by simp only [intOf]; omega⟩
      · have hle : (256 : Int) ≤ (n : Int) := by omega
        have hn6 : n = 256 := by omega
        subst hn6
        obtain ⟨⟨k0, k1, k2, k3⟩, f0, f1, f2, f3⟩ := hb0
        obtain ⟨⟨r0, r1, r2, r3⟩, g0, g1, g2, g3⟩ := hb1
        clear hB hn hlt
        go_wp2_with fail
        refine bodyPost_ret (v := .tuple #[setV (bld f 256), .bool true]) (by simp [results, Try.results46, go_sem, setV, r0, r1, r2, r3]) rfl ⟨rfl, ?_⟩
        exact below_st4 HB.out (Nat.le_refl _) (bld f 256)

set_option maxRecDepth 100000 in
set_option maxHeartbeats 2000000 in
theorem names_any (name : ByteArray) (w : World) : Calls Try.prog 9 #[.string name] w (TrueC w) := by
  have HAL := Lib.hid fun (W : World) => alive_c W
  by_cases h : 100 < name.size
  · have h1 : (100 : Int) < (name.size : Int) := by omega
    clear h
    go_enter Try.func9, Try.ntmps9
    go_wp2_with fail
    go_at_call 34
    refine (HAL.out _).mono ?_
    rintro e w1 ⟨rfl, hw1⟩
    have HW := Lib.hid hw1
    clear hw1
    go_wp2_with fail
    go_ret
    exact ⟨rfl, HW.out⟩
  · have h1 : ¬ (100 : Int) < (name.size : Int) := by omega
    have h2 : (name.size : Int) ≤ 100 := by omega
    have HN := Lib.hid (named2_is name)
    have HR := Lib.hid (rnamed_is name)
    generalize nameS name.toList = S at *
    generalize isName name.toList = b at *
    unfold setV at *
    have ES := eq_self S
    clear h
    go_enter Try.func9, Try.ntmps9
    go_wp2_with fail
    go_at_call 45
    refine (HN.out _).mono ?_
    rintro e w1 ⟨rfl, hw1⟩
    have HB1 := Lib.hid hw1
    clear hw1
    go_wp2_with fail
    go_at_call 46
    refine (HR.out _).mono ?_
    rintro e w2 ⟨rfl, hw2⟩
    have xs := (Box.new w1 S 69).below hw2 (by simp)
    have l2 : w1.heap.size < w2.heap.size := Nat.lt_of_lt_of_le (by simp) hw2.size
    have HB2 := Lib.hid (HB1.out.trans (((Below.refl _ w1).alloc (Nat.le_refl _) _).trans (hw2.mono (by simp)) |>.mono HB1.out.size))
    clear hw2
    go_wp2_with fail
    go_at_call 34
    refine (HAL.out _).mono ?_
    rintro e w3 ⟨rfl, hw3⟩
    have hal := (Below.refl w2.heap.size w2).alloc (Nat.le_refl _) (.cells #[.int .u64 (S 0), .int .u64 (S 1), .int .u64 (S 2), .int .u64 (S 3)] 69)
    obtain ⟨s0, s1, s2, s3⟩ := (xs.below hal l2).below hw3 (by simp; omega)
    obtain ⟨t0, t1, t2, t3⟩ := (Box.new w2 S 69).below hw3 (by simp)
    have HB3 := Lib.hid (HB2.out.trans ((hal.trans (hw3.mono (by simp))).mono HB2.out.size))
    clear hw3 hal xs l2
    go_wp2_with fail
    go_ret
    exact ⟨by simp, HB3.out⟩
end Go.Proofs.Ytkcijfimeidiaaa

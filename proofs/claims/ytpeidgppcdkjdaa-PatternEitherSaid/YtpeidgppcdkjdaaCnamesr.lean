/-
  The document's Named; ClassNames. No condition.
-/
import Derived.Test.YtpeidgppcdkjdaaCnames
import Derived.Test.YtpeidgppcdkjdaaCin
import Derived.Test.YtpeidgppcdkjdaaCref
namespace Go.Proofs.Ytpeidgppcdkjdaa
open Go.RowKit

theorem bld_name (l : List UInt8) (h : isName l = true) : setV (bld (fun c => decide (inS l c = 1)) 256) = setV (nameS l) := by
  refine bld_eq (nameS_ok l) fun c _ => ?_
  rw [in_has l h c]
  cases has (nameS l) c <;> rfl
def RNRel (f : Nat → Bool) (w : World) (i : Value) (wr : World) : Prop := BldRel f w (w.heap.size + 1) w.heap.size i wr
set_option maxRecDepth 100000 in
set_option maxHeartbeats 2000000 in
theorem rnamed_is (name : ByteArray) (w : World) : Calls Try.prog 69 #[.string name] w fun e w' => e = .returned (.tuple #[setV (nameS name.toList), .bool (isName name.toList)]) ∧ Below w.heap.size w w' := by
  cases hn : isName name.toList with
  | false =>
    rw [named_none _ hn]
    have HI := Lib.hid fun (W : World) => in_is name 0 (by decide) W
    have h1 : inS name.toList 0 = -1 := by
      have h := hn
      unfold isName at h
      simp only [Bool.or_eq_false_iff, beq_eq_false_iff_ne, ne_eq, and_assoc] at h
      obtain ⟨h0, h1, h2, h3, h4, h5, h6, h7, h8, h9, h10, h11⟩ := h
      unfold inS
      rw [if_neg h0, if_neg h1, if_neg h2, if_neg h3, if_neg h4, if_neg h5, if_neg h6, if_neg h7, if_neg h8, if_neg h9, if_neg h10, if_neg h11]
    rw [h1] at HI
    simp only [Int.cast_ofNat_Int] at HI
    clear h1 hn
    unfold setV noS
    go_enter Try.func69, Try.ntmps69
    go_wp2_with fail
    go_loopw [5, 6] (fun i _ wr => i = .int .i64 0 ∧ wr = (w.alloc (.cells #[.int .u64 0, .int .u64 0, .int .u64 0, .int .u64 0] 26)).alloc (.cells #[.int .u64 0, .int .u64 0, .int .u64 0, .int .u64 0] 26)) (fun i _ _ => 256 - (intOf i).toNat)
    case atStart => exact ⟨rfl, rfl⟩
    case round =>
      obtain ⟨rfl, rfl⟩ := hrel
      go_wp2_with fail
      go_at_call 76
      refine (HI.out _).mono ?_
      rintro e w1 ⟨rfl, rfl⟩
      go_wp2_with fail
      refine bodyPost_ret (v := .tuple #[setV noS, .bool false]) (by simp [results, Try.results69, go_sem, setV, noS]) rfl ⟨rfl, ?_⟩
      exact ((Below.refl _ w).alloc (Nat.le_refl _) _).alloc (by simp) _
  | true =>
    rw [← bld_name _ hn]
    unfold setV
    obtain ⟨f, hf⟩ : ∃ f : Nat → Bool, f = fun c => decide (inS name.toList c = 1) := ⟨_, rfl⟩
    rw [← hf]
    have HF := Lib.hid hf
    have HNM := Lib.hid hn
    clear hf hn
    go_enter Try.func69, Try.ntmps69
    go_wp2_with fail
    go_loopw [5, 6] (fun i _ wr => RNRel f w i wr) (fun i _ _ => 256 - (intOf i).toNat)
    case atStart =>
      exact ⟨0, by decide, rfl, zero_at _ _ (by simp), (zero_at _ _ rfl).alloc (by simp) _, ((Below.refl _ w).alloc (Nat.le_refl _) _).alloc (by simp) _, by simp, by first | (simp; done) | (simp; omega)⟩
    case round =>
      obtain ⟨n, hn, rfl, hb0, hb1, hB, hs0, hs1⟩ := hrel
      have H0 := Lib.hid hb0
      have H1 := Lib.hid hb1
      have HB := Lib.hid hB
      have HS := Lib.hid (And.intro hs0 hs1)
      clear hs0 hs1
      by_cases hlt : n < 256
      · have hle : (n : Int) < 256 := by omega
        have hw : wrap64 ((n : Int) + 1) = (n : Int) + 1 := IntWalk.wrap64_in _ (by omega)
        have HI := Lib.hid fun (W : World) => in_is name n hlt W
        have HADD := Lib.hid fun (W : World) => radd_is (bld f n) n (OkS.bld f n) hlt W
        unfold setV at HADD
        have hfn : f n = decide (inS name.toList n = 1) := by rw [HF.out]
        clear hb0 hb1 hB
        cases hx : has (nameS name.toList) n with
        | true =>
          have hi : inS name.toList n = 1 := by rw [in_has _ HNM.out, hx]; rfl
          rw [hi] at hfn HI
          have HFT := Lib.hid (show f n = true by rw [hfn]; rfl)
          clear hfn hi hx
          obtain ⟨⟨k0, k1, k2, k3⟩, f0, f1, f2, f3⟩ := H0.out
          go_wp2_with fail
          go_at_call 76
          refine (HI.out _).mono ?_
          rintro e w1 ⟨rfl, rfl⟩
          go_wp2_with fail
          go_at_call 22
          refine (HADD.out _).mono ?_
          rintro e w2 ⟨rfl, hw2⟩
          have HY := Lib.hid (BldRel.yes H0.out H1.out HB.out HS.out.1 HS.out.2 hw2 hlt (by omega) (by omega) HFT.out)
          clear k0 k1 k2 k3 f0 f1 f2 f3
          obtain ⟨⟨k0, k1, k2, k3⟩, f0, f1, f2, f3⟩ := H0.out.below hw2 HS.out.1
          clear hw2
          go_wp2_with fail
          exact ⟨HY.out, by simp only [intOf]; omega⟩
        | false =>
          have hi : inS name.toList n = 0 := by rw [in_has _ HNM.out, hx]; rfl
          rw [hi] at hfn HI
          have HFT := Lib.hid (show f n = false by rw [hfn]; rfl)
          clear hfn hi hx
          go_wp2_with fail
          go_at_call 76
          refine (HI.out _).mono ?_
          rintro e w1 ⟨rfl, rfl⟩
          go_wp2_with fail
          exact ⟨BldRel.no H0.out H1.out HB.out HS.out.1 HS.out.2 (Below.refl _ _) hlt HFT.out, by simp only [intOf]; omega⟩
      · have hle : (256 : Int) ≤ (n : Int) := by omega
        have hn6 : n = 256 := by omega
        subst hn6
        obtain ⟨⟨k0, k1, k2, k3⟩, f0, f1, f2, f3⟩ := hb0
        obtain ⟨⟨r0, r1, r2, r3⟩, g0, g1, g2, g3⟩ := hb1
        clear hB hn hlt
        go_wp2_with fail
        refine bodyPost_ret (v := .tuple #[setV (bld f 256), .bool true]) (by simp [results, Try.results69, go_sem, setV, r0, r1, r2, r3]) rfl ⟨rfl, ?_⟩
        exact below_st4 HB.out (Nat.le_refl _) (bld f 256)

end Go.Proofs.Ytpeidgppcdkjdaa

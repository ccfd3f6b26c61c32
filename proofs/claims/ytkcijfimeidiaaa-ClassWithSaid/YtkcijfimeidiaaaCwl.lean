/-
  ClassWith: just these more. Condition: sets of four words of 64 bits, three bytes.
-/
import Derived.Test.YtkcijfimeidiaaaCturned
namespace Go.Proofs.Ytkcijfimeidiaaa
open Go.RowKit Go.Sort

def Box3 (w : World) (b lo hi c : Nat) : Prop := w.cell? ⟨b, 0, none⟩ = some (.int .u8 (lo : Int)) ∧ w.cell? ⟨b, 1, none⟩ = some (.int .u8 (hi : Int)) ∧ w.cell? ⟨b, 2, none⟩ = some (.int .u8 (c : Int))
theorem Box3.below {w w' : World} {b B lo hi c : Nat} (h : Box3 w b lo hi c) (hw : Below B w w') (hb : b < B) : Box3 w' b lo hi c :=
  ⟨by rw [hw.cell hb]; exact h.1, by rw [hw.cell hb]; exact h.2.1, by rw [hw.cell hb]; exact h.2.2⟩

set_option maxRecDepth 100000 in
set_option maxHeartbeats 4000000 in
theorem with_any (A B : Nat → Nat) (lo hi c : Nat) (hA : OkS A) (hB : OkS B) (hlo : lo < 256) (hhi : hi < 256) (hc : c < 256) (w : World) :
    Calls Try.prog 12 #[setV A, setV B, .agg #[.int .u8 (lo : Int), .int .u8 (hi : Int), .int .u8 (c : Int)]] w (TrueC w) := by
  have HW := Lib.hid fun (W : World) => with_is A lo hi hA hlo hhi W
  have HBO := Lib.hid fun (W : World) => both_is A B hA hB W
  have HS := Lib.hid fun (W : World) => has_is (withS A lo hi) c (hA.withS _ _) hc W
  have HA := Lib.hid fun (W : World) => has_is A c hA hc W
  have HB := Lib.hid fun (W : World) => has_is B c hB hc W
  have HU := Lib.hid fun (W : World) => has_is (bothS A B) c (hA.both hB) hc W
  rw [has_with] at HS
  rw [has_both] at HU
  generalize withS A lo hi = S at HW HS
  generalize bothS A B = U at HBO HU
  generalize has A c = x at *
  generalize has B c = x2 at *
  unfold setV at *
  clear hA hB
  go_enter Try.func12, Try.ntmps12
  go_wp2_with fail
  go_at_call 37
  refine (HW.out _).mono ?_
  rintro e w1 ⟨rfl, hb1⟩
  obtain ⟨w0, hw0⟩ : ∃ w0, w0 = ((w.alloc (.cells #[.int .u64 (A 0), .int .u64 (A 1), .int .u64 (A 2), .int .u64 (A 3)] 69)).alloc (.cells #[.int .u64 (B 0), .int .u64 (B 1), .int .u64 (B 2), .int .u64 (B 3)] 69)).alloc (.cells #[.int .u8 (lo : Int), .int .u8 (hi : Int), .int .u8 (c : Int)] 80) := ⟨_, rfl⟩
  rw [← hw0] at hb1
  have xa : Box w0 w.heap.size A := by rw [hw0]; refine ⟨?_, ?_, ?_, ?_⟩ <;> simp [go_sem]
  have xb : Box w0 (w.heap.size + 1) B := by rw [hw0]; refine ⟨?_, ?_, ?_, ?_⟩ <;> simp [go_sem]
  have xc : Box3 w0 (w.heap.size + 2) lo hi c := by rw [hw0]; refine ⟨?_, ?_, ?_⟩ <;> simp [go_sem]
  have z0 : w0.heap.size = w.heap.size + 3 := by rw [hw0]; simp
  have HB0 := Lib.hid (show Below w.heap.size w w0 by rw [hw0]; exact ((((Below.refl _ w).alloc (Nat.le_refl _) _).alloc (by simp) _).alloc (by simp; omega) _))
  clear hw0
  have ya := xa.below hb1 (by omega)
  have yb := xb.below hb1 (by omega)
  have yc := xc.below hb1 (by omega)
  have HB1 := Lib.hid (HB0.out.trans (hb1.mono HB0.out.size))
  have z1 : w.heap.size + 2 < w1.heap.size := Nat.lt_of_lt_of_le (by omega) hb1.size
  clear xa xb xc hb1 z0 HB0
  have HYA := Lib.hid ya
  have HYB := Lib.hid yb
  have HYC := Lib.hid yc
  obtain ⟨a0, a1, a2, a3⟩ := ya
  obtain ⟨b0, b1, b2, b3⟩ := yb
  obtain ⟨c0, c1, c2⟩ := yc
  have z1a : w.heap.size < w1.heap.size := by omega
  have z1b : w.heap.size + 1 < w1.heap.size := by omega
  have HZ1 := Lib.hid z1
  go_wp2_with fail
  go_at_call 41
  refine (HBO.out _).mono ?_
  rintro e w2 ⟨rfl, hb2⟩
  have xs := (Box.new w1 S 69).below hb2 (by simp)
  have h12 := (((Below.refl _ w1).alloc (Nat.le_refl _) _)).trans (hb2.mono (by simp))
  have l12 : w1.heap.size < w2.heap.size := Nat.lt_of_lt_of_le (by simp) hb2.size
  have HB2 := Lib.hid (HB1.out.trans (h12.mono HB1.out.size))
  clear a0 a1 a2 a3 b0 b1 b2 b3 c0 c1 c2
  have xa := HYA.out.below h12 (by omega)
  have xb := HYB.out.below h12 (by omega)
  have xc := HYC.out.below h12 (by omega)
  clear hb2 h12
  go_upto_region 4 with fail
  obtain ⟨wr, hwr⟩ : ∃ wr, wr = w2.alloc (.cells #[.int .u64 (U 0), .int .u64 (U 1), .int .u64 (U 2), .int .u64 (U 3)] 69) := ⟨_, rfl⟩
  rw [← hwr]
  have hn2 : Below w2.heap.size w2 wr := by rw [hwr]; exact (Below.refl _ w2).alloc (Nat.le_refl _) _
  have xu : Box wr w2.heap.size U := by rw [hwr]; exact Box.new w2 U _
  have xs := xs.below hn2 l12
  have xa := xa.below hn2 (by omega)
  have xb := xb.below hn2 (by omega)
  have xc := xc.below hn2 (by omega)
  have HBR := Lib.hid (HB2.out.trans (hn2.mono HB2.out.size))
  clear hwr hn2 l12 z1 z1a z1b HZ1 HYA HYB HYC
  obtain ⟨a0, a1, a2, a3⟩ := xa
  obtain ⟨b0, b1, b2, b3⟩ := xb
  obtain ⟨c0, c1, c2⟩ := xc
  obtain ⟨s0, s1, s2, s3⟩ := xs
  obtain ⟨u0, u1, u2, u3⟩ := xu
  have a0 := cell_regrown a0
  have a1 := cell_regrown a1
  have a2 := cell_regrown a2
  have a3 := cell_regrown a3
  have b0 := cell_regrown b0
  have b1 := cell_regrown b1
  have b2 := cell_regrown b2
  have b3 := cell_regrown b3
  have c0 := cell_regrown c0
  have c1 := cell_regrown c1
  have s0 := cell_regrown s0
  have s1 := cell_regrown s1
  have s2 := cell_regrown s2
  have s3 := cell_regrown s3
  have u0 := cell_regrown u0
  have u1 := cell_regrown u1
  have u2 := cell_regrown u2
  have u3 := cell_regrown u3
  have RAL := Lib.hid (RG.of alive_c wr)
  have RA := Lib.hid (RG.of HA.out wr)
  have RB := Lib.hid (RG.of HB.out wr)
  have RS := Lib.hid (RG.of HS.out wr)
  have RU := Lib.hid (RG.of HU.out wr)
  unfold RG at RAL RA RB RS RU
  clear HW HBO HS HA HB HU HB2 HB1 c2
  cases x
  · by_cases hy : lo ≤ c
    · have ty : decide (lo ≤ c) = true := decide_eq_true hy
      have iy : (lo : Int) ≤ (c : Int) := by omega
      by_cases hz : c ≤ hi
      · have tz : decide (c ≤ hi) = true := decide_eq_true hz
        have iz : (c : Int) ≤ (hi : Int) := by omega
        rw [ty, tz] at RS
        simp only [Bool.false_or, Bool.and_self] at RS
        clear hy hz
        cases x2
        · simp only [Bool.false_or, Bool.or_false] at RU
          refine wp_region_quiet_below (by kernel_rfl) (by kernel_rfl) ?_
          repeat (go_big_quiet_step (first | (with_reducible exact RAL.out _ _) | (with_reducible exact RA.out _ _) | (with_reducible exact RB.out _ _) | (with_reducible exact RS.out _ _) | (with_reducible exact RU.out _ _)))
          refine wpQuiet_nil ?_
          rintro w5 ⟨⟨dq, osq⟩, rfl⟩
          have HB5 := Lib.hid (HBR.out.trans ((below_regrown wr dq osq).mono HBR.out.size))
          generalize grow (redrawn wr dq) osq = w5 at HB5 ⊢
          clear a0 a1 a2 a3 b0 b1 b2 b3 c0 c1 s0 s1 s2 s3 u0 u1 u2 u3 RAL RA RB RS RU
          go_wp2_with fail
          go_ret
          exact ⟨rfl, HB5.out⟩
        · simp only [Bool.false_or, Bool.or_true] at RU
          refine wp_region_quiet_below (by kernel_rfl) (by kernel_rfl) ?_
          repeat (go_big_quiet_step (first | (with_reducible exact RAL.out _ _) | (with_reducible exact RA.out _ _) | (with_reducible exact RB.out _ _) | (with_reducible exact RS.out _ _) | (with_reducible exact RU.out _ _)))
          refine wpQuiet_nil ?_
          rintro w5 ⟨⟨dq, osq⟩, rfl⟩
          have HB5 := Lib.hid (HBR.out.trans ((below_regrown wr dq osq).mono HBR.out.size))
          generalize grow (redrawn wr dq) osq = w5 at HB5 ⊢
          clear a0 a1 a2 a3 b0 b1 b2 b3 c0 c1 s0 s1 s2 s3 u0 u1 u2 u3 RAL RA RB RS RU
          go_wp2_with fail
          go_ret
          exact ⟨rfl, HB5.out⟩
      · have tz : decide (c ≤ hi) = false := decide_eq_false hz
        have iz : (hi : Int) < (c : Int) := by omega
        rw [ty, tz] at RS
        simp only [Bool.false_or, Bool.and_false] at RS
        clear hy hz
        cases x2
        · simp only [Bool.false_or, Bool.or_false] at RU
          refine wp_region_quiet_below (by kernel_rfl) (by kernel_rfl) ?_
          repeat (go_big_quiet_step (first | (with_reducible exact RAL.out _ _) | (with_reducible exact RA.out _ _) | (with_reducible exact RB.out _ _) | (with_reducible exact RS.out _ _) | (with_reducible exact RU.out _ _)))
          refine wpQuiet_nil ?_
          rintro w5 ⟨⟨dq, osq⟩, rfl⟩
          have HB5 := Lib.hid (HBR.out.trans ((below_regrown wr dq osq).mono HBR.out.size))
          generalize grow (redrawn wr dq) osq = w5 at HB5 ⊢
          clear a0 a1 a2 a3 b0 b1 b2 b3 c0 c1 s0 s1 s2 s3 u0 u1 u2 u3 RAL RA RB RS RU
          go_wp2_with fail
          go_ret
          exact ⟨rfl, HB5.out⟩
        · simp only [Bool.false_or, Bool.or_true] at RU
          refine wp_region_quiet_below (by kernel_rfl) (by kernel_rfl) ?_
          repeat (go_big_quiet_step (first | (with_reducible exact RAL.out _ _) | (with_reducible exact RA.out _ _) | (with_reducible exact RB.out _ _) | (with_reducible exact RS.out _ _) | (with_reducible exact RU.out _ _)))
          refine wpQuiet_nil ?_
          rintro w5 ⟨⟨dq, osq⟩, rfl⟩
          have HB5 := Lib.hid (HBR.out.trans ((below_regrown wr dq osq).mono HBR.out.size))
          generalize grow (redrawn wr dq) osq = w5 at HB5 ⊢
          clear a0 a1 a2 a3 b0 b1 b2 b3 c0 c1 s0 s1 s2 s3 u0 u1 u2 u3 RAL RA RB RS RU
          go_wp2_with fail
          go_ret
          exact ⟨rfl, HB5.out⟩
    · have ty : decide (lo ≤ c) = false := decide_eq_false hy
      have iy : (c : Int) < (lo : Int) := by omega
      rw [ty] at RS
      simp only [Bool.false_or, Bool.false_and] at RS
      clear hy
      cases x2
      · simp only [Bool.false_or, Bool.or_false] at RU
        refine wp_region_quiet_below (by kernel_rfl) (by kernel_rfl) ?_
        repeat (go_big_quiet_step (first | (with_reducible exact RAL.out _ _) | (with_reducible exact RA.out _ _) | (with_reducible exact RB.out _ _) | (with_reducible exact RS.out _ _) | (with_reducible exact RU.out _ _)))
        refine wpQuiet_nil ?_
        rintro w5 ⟨⟨dq, osq⟩, rfl⟩
        have HB5 := Lib.hid (HBR.out.trans ((below_regrown wr dq osq).mono HBR.out.size))
        generalize grow (redrawn wr dq) osq = w5 at HB5 ⊢
        clear a0 a1 a2 a3 b0 b1 b2 b3 c0 c1 s0 s1 s2 s3 u0 u1 u2 u3 RAL RA RB RS RU
        go_wp2_with fail
        go_ret
        exact ⟨rfl, HB5.out⟩
      · simp only [Bool.false_or, Bool.or_true] at RU
        refine wp_region_quiet_below (by kernel_rfl) (by kernel_rfl) ?_
        repeat (go_big_quiet_step (first | (with_reducible exact RAL.out _ _) | (with_reducible exact RA.out _ _) | (with_reducible exact RB.out _ _) | (with_reducible exact RS.out _ _) | (with_reducible exact RU.out _ _)))
        refine wpQuiet_nil ?_
        rintro w5 ⟨⟨dq, osq⟩, rfl⟩
        have HB5 := Lib.hid (HBR.out.trans ((below_regrown wr dq osq).mono HBR.out.size))
        generalize grow (redrawn wr dq) osq = w5 at HB5 ⊢
        clear a0 a1 a2 a3 b0 b1 b2 b3 c0 c1 s0 s1 s2 s3 u0 u1 u2 u3 RAL RA RB RS RU
        go_wp2_with fail
        go_ret
        exact ⟨rfl, HB5.out⟩
  · simp only [Bool.true_or] at RS RU
    refine wp_region_quiet_below (by kernel_rfl) (by kernel_rfl) ?_
    repeat (go_big_quiet_step (first | (with_reducible exact RAL.out _ _) | (with_reducible exact RA.out _ _) | (with_reducible exact RB.out _ _) | (with_reducible exact RS.out _ _) | (with_reducible exact RU.out _ _)))
    refine wpQuiet_nil ?_
    rintro w5 ⟨⟨dq, osq⟩, rfl⟩
    have HB5 := Lib.hid (HBR.out.trans ((below_regrown wr dq osq).mono HBR.out.size))
    generalize grow (redrawn wr dq) osq = w5 at HB5 ⊢
    clear a0 a1 a2 a3 b0 b1 b2 b3 c0 c1 s0 s1 s2 s3 u0 u1 u2 u3 RAL RA RB RS RU
    go_wp2_with fail
    go_ret
    exact ⟨rfl, HB5.out⟩
end Go.Proofs.Ytkcijfimeidiaaa

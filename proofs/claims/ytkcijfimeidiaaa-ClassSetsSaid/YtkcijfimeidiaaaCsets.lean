/-
  ClassSets: whether a byte is in any set, and what is made of any sets, is as the document says. Condition: sets of four words of 64 bits, two bytes.
-/
import Derived.Test.YtkcijfimeidiaaaCref
import Derived.Test.YtkcijfimeidiaaaCturned
namespace Go.Proofs.Ytkcijfimeidiaaa
open Go.RowKit Go.Sort

def Box2 (w : World) (b lo hi : Nat) : Prop := w.cell? ⟨b, 0, none⟩ = some (.int .u8 (lo : Int)) ∧ w.cell? ⟨b, 1, none⟩ = some (.int .u8 (hi : Int))
set_option maxRecDepth 100000 in
set_option maxHeartbeats 4000000 in
theorem sets_any (A B : Nat → Nat) (lo hi : Nat) (hA : OkS A) (hB : OkS B) (hlo : lo < 256) (hhi : hi < 256) (w : World) :
    Calls Try.prog 8 #[setV A, setV B, .agg #[.int .u8 (lo : Int), .int .u8 (hi : Int)]] w (TrueC w) := by
  have H1 := Lib.hid fun (W : World) => has_is A lo hA hlo W
  have H2 := Lib.hid fun (W : World) => rhas_is A lo hlo W
  have W1 := Lib.hid fun (W : World) => with_is A lo hi hA hlo hhi W
  have W2 := Lib.hid fun (W : World) => rwith_is A lo hi hA hlo hhi W
  have N1 := Lib.hid fun (W : World) => not_is A hA W
  have N2 := Lib.hid fun (W : World) => rnot_is A hA W
  have B1 := Lib.hid fun (W : World) => both_is A B hA hB W
  have B2 := Lib.hid fun (W : World) => rboth_is A B hA hB W
  have C1 := Lib.hid fun (W : World) => count_is A hA W
  have C2 := Lib.hid fun (W : World) => rcount_is A W
  generalize has A lo = x at *
  generalize withS A lo hi = S at *
  generalize notS A = N at *
  generalize bothS A B = U at *
  generalize countS A = m at *
  unfold setV at *
  clear hA hB
  go_enter Try.func8, Try.ntmps8
  go_upto_region 1 with fail
  obtain ⟨wr, hwr⟩ : ∃ wr, wr = ((w.alloc (.cells #[.int .u64 (A 0), .int .u64 (A 1), .int .u64 (A 2), .int .u64 (A 3)] 69)).alloc (.cells #[.int .u64 (B 0), .int .u64 (B 1), .int .u64 (B 2), .int .u64 (B 3)] 69)).alloc (.cells #[.int .u8 (lo : Int), .int .u8 (hi : Int)] 63) := ⟨_, rfl⟩
  rw [← hwr]
  have xa : Box wr w.heap.size A := by rw [hwr]; refine ⟨?_, ?_, ?_, ?_⟩ <;> simp [go_sem]
  have xb : Box wr (w.heap.size + 1) B := by rw [hwr]; refine ⟨?_, ?_, ?_, ?_⟩ <;> simp [go_sem]
  have xc : Box2 wr (w.heap.size + 2) lo hi := by rw [hwr]; refine ⟨?_, ?_⟩ <;> simp [go_sem]
  have HBR := Lib.hid (show Below w.heap.size w wr by rw [hwr]; exact ((((Below.refl _ w).alloc (Nat.le_refl _) _).alloc (by simp) _).alloc (by simp; omega) _))
  clear hwr
  obtain ⟨a0, a1, a2, a3⟩ := xa
  obtain ⟨b0, b1, b2, b3⟩ := xb
  obtain ⟨c0, c1⟩ := xc
  have a0 := cell_regrown a0
  have a1 := cell_regrown a1
  have a2 := cell_regrown a2
  have a3 := cell_regrown a3
  have b0 := cell_regrown b0
  have b1 := cell_regrown b1
  have b2 := cell_regrown b2
  have b3 := cell_regrown b3
  have c0 := cell_regrown c0
  have c1 := cell_regrown c1
  have RAL := Lib.hid (RG.of alive_c wr)
  have RH1 := Lib.hid (RG.of H1.out wr)
  have RH2 := Lib.hid (RG.of H2.out wr)
  have RW1 := Lib.hid (RG.of W1.out wr)
  have RW2 := Lib.hid (RG.of W2.out wr)
  have RN1 := Lib.hid (RG.of N1.out wr)
  have RN2 := Lib.hid (RG.of N2.out wr)
  have RB1 := Lib.hid (RG.of B1.out wr)
  have RB2 := Lib.hid (RG.of B2.out wr)
  have RC1 := Lib.hid (RG.of C1.out wr)
  have RC2 := Lib.hid (RG.of C2.out wr)
  unfold RG at RAL RH1 RH2 RW1 RW2 RN1 RN2 RB1 RB2 RC1 RC2
  clear H1 H2 W1 W2 N1 N2 B1 B2 C1 C2
  have ES := eq_self S
  have EN := eq_self N
  have EU := eq_self U
  cases x
  · refine wp_region_quiet_below (by kernel_rfl) (by kernel_rfl) ?_
    repeat (go_big_quiet_step (first | (with_reducible exact RAL.out _ _) | (with_reducible exact RH1.out _ _) | (with_reducible exact RH2.out _ _) | (with_reducible exact RW1.out _ _) | (with_reducible exact RW2.out _ _) | (with_reducible exact RN1.out _ _) | (with_reducible exact RN2.out _ _) | (with_reducible exact RB1.out _ _) | (with_reducible exact RB2.out _ _) | (with_reducible exact RC1.out _ _) | (with_reducible exact RC2.out _ _)))
    refine wpQuiet_nil ?_
    rintro w5 ⟨⟨dq, osq⟩, rfl⟩
    have HB5 := Lib.hid (HBR.out.trans ((below_regrown wr dq osq).mono HBR.out.size))
    generalize grow (redrawn wr dq) osq = w5 at HB5 ⊢
    clear a0 a1 a2 a3 b0 b1 b2 b3 c0 c1 RAL RH1 RH2 RW1 RW2 RN1 RN2 RB1 RB2 RC1 RC2 ES EN EU
    go_wp2_with fail
    go_ret
    exact ⟨rfl, HB5.out⟩
  · refine wp_region_quiet_below (by kernel_rfl) (by kernel_rfl) ?_
    repeat (go_big_quiet_step (first | (with_reducible exact RAL.out _ _) | (with_reducible exact RH1.out _ _) | (with_reducible exact RH2.out _ _) | (with_reducible exact RW1.out _ _) | (with_reducible exact RW2.out _ _) | (with_reducible exact RN1.out _ _) | (with_reducible exact RN2.out _ _) | (with_reducible exact RB1.out _ _) | (with_reducible exact RB2.out _ _) | (with_reducible exact RC1.out _ _) | (with_reducible exact RC2.out _ _)))
    refine wpQuiet_nil ?_
    rintro w5 ⟨⟨dq, osq⟩, rfl⟩
    have HB5 := Lib.hid (HBR.out.trans ((below_regrown wr dq osq).mono HBR.out.size))
    generalize grow (redrawn wr dq) osq = w5 at HB5 ⊢
    clear a0 a1 a2 a3 b0 b1 b2 b3 c0 c1 RAL RH1 RH2 RW1 RW2 RN1 RN2 RB1 RB2 RC1 RC2 ES EN EU
    go_wp2_with fail
    go_ret
    exact ⟨rfl, HB5.out⟩
end Go.Proofs.Ytkcijfimeidiaaa

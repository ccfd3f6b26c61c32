/-
  ClassBrackets. Conditions: a text; the world holds what strings.Index asks.
-/
import Derived.Test.YtkcijfimeidiaaaCrbn
import Derived.Test.YtkcijfimeidiaaaCrby
import Derived.Test.YtkcijfimeidiaaaCrbe
import Derived.Test.YtkcijfimeidiaaaCalive
import Derived.Test.YtkcijfimeidiaaaCeq
namespace Go.Proofs.Ytkcijfimeidiaaa
open Go.RowKit

def BrkB (s : ByteArray) (nt : Bool) (r : Option ((Nat → Nat) × Nat)) : Prop :=
  (∀ W : World, MaxAt W → Calls Try.prog 47 #[.string s] W fun e w' => e = .returned (brkV nt r) ∧ Below W.heap.size W w') ∧
  ∀ W : World, Calls Try.prog 48 #[.string s] W fun e w' => e = .returned (brkV nt r) ∧ Below W.heap.size W w'
theorem brk_two (s : ByteArray) (hz : s.size ≤ 2147483648) : ∃ nt r, BrkB s nt r := by
  have hb : ∀ (nt : Bool), pre ⟨#[94]⟩ s = nt → ∀ r, BrkP s (if nt = true then 1 else 0) noS r → ∀ W : World, MaxAt W → Calls Try.prog 47 #[.string s] W fun e w' => e = .returned (brkV nt r) ∧ Below W.heap.size W w' :=
    fun nt hnt r hr W hM => bracket_is MaxAt (fun _ _ h hb => h.below hb) s nt hnt r (hr.toBrk hz) (by omega) W hM
  match hl : s.data.toList with
  | [] =>
    have h0 : s.size = 0 := size_of hl
    obtain ⟨r, hr⟩ := brkP_ex s s.size 0 noS (Nat.zero_le _) (by omega)
    exact ⟨false, r, hb false (by unfold pre; rw [hl]; rfl) r hr, rbr_nil s hz h0 r hr⟩
  | c :: q =>
    have hs : 1 ≤ s.size := by rw [size_of hl]; simp
    by_cases hc : c = 94
    · obtain ⟨r, hr⟩ := brkP_ex s s.size 1 noS hs (by omega)
      exact ⟨true, r, hb true (by unfold pre; rw [hl, hc]; rfl) r hr, rbr_yes s hz hl hc r hr⟩
    · obtain ⟨r, hr⟩ := brkP_ex s s.size 0 noS (Nat.zero_le _) (by omega)
      exact ⟨false, r, hb false (by unfold pre; rw [hl]; simp [List.isPrefixOf, Ne.symm hc]) r hr, rbr_no s hz hl hc r hr⟩
theorem brkV_is (nt : Bool) (r : Option ((Nat → Nat) × Nat)) : ∃ (S : Nat → Nat) (n k : Int), brkV nt r = .tuple #[setV S, .int .i64 n, .int .i64 k] := by
  cases r with
  | none => exact ⟨_, _, _, rfl⟩
  | some p => exact ⟨_, _, _, rfl⟩

set_option maxRecDepth 100000 in
set_option maxHeartbeats 2000000 in
theorem brackets_any (text : ByteArray) (w : World) (hmax : MaxAt w) : Calls Try.prog 10 #[.string text] w (TrueC w) := by
  have HAL := Lib.hid fun (W : World) => alive_c W
  by_cases h : 100 < text.size
  · have h1 : (100 : Int) < (text.size : Int) := by omega
    clear h hmax
    go_enter Try.func10, Try.ntmps10
    go_wp2_with fail
    go_at_call 34
    refine (HAL.out _).mono ?_
    rintro e w1 ⟨rfl, hw1⟩
    have HW := Lib.hid hw1
    clear hw1
    go_wp2_with fail
    go_ret
    exact ⟨rfl, HW.out⟩
  · have h1 : ¬ (100 : Int) < (text.size : Int) := by omega
    have h2 : (text.size : Int) ≤ 100 := by omega
    obtain ⟨nt, r, hN, hR⟩ := brk_two text (by omega)
    obtain ⟨S, n, k, hv⟩ := brkV_is nt r
    have hNw := hN w hmax
    rw [hv] at hNw hR
    unfold setV at hNw hR
    have HN := Lib.hid hNw
    have HR := Lib.hid hR
    have ES := eq_self S
    clear h hN hR hv hNw hmax
    go_enter Try.func10, Try.ntmps10
    go_wp2_with fail
    go_at_call 47
    refine (HN.out).mono ?_
    rintro e w1 ⟨rfl, hw1⟩
    have HB1 := Lib.hid hw1
    clear hw1
    go_wp2_with fail
    go_at_call 48
    refine (HR.out _).mono ?_
    rintro e w2 ⟨rfl, hw2⟩
    have xs := (Box.new w1 S 69).below hw2 (by simp)
    have l2 : w1.heap.size < w2.heap.size := Nat.lt_of_lt_of_le (by simp) hw2.size
    have HB2 := Lib.hid (HB1.out.trans (((Below.refl _ w1).alloc (Nat.le_refl _) _).trans (hw2.mono (by simp)) |>.mono HB1.out.size))
    clear hw2
    go_wp2_with fail
    go_at_call 34
    refine (HAL.out _).mono ?_
    rintro e w3 ⟨rfl, hw3⟩
    have hal := (Below.refl w2.heap.size w2).alloc (Nat.le_refl _) (.cells #[.int .u64 (S 0), .int .u64 (S 1), .int .u64 (S 2), .int .u64 (S 3)] 69)
    obtain ⟨s0, s1, s2, s3⟩ := (xs.below hal l2).below hw3 (by simp; omega)
    obtain ⟨t0, t1, t2, t3⟩ := (Box.new w2 S 69).below hw3 (by simp)
    have HB3 := Lib.hid (HB2.out.trans ((hal.trans (hw3.mono (by simp))).mono HB2.out.size))
    clear hw3 hal xs l2
    go_wp2_with fail
    go_ret
    exact ⟨by simp, HB3.out⟩
end Go.Proofs.Ytkcijfimeidiaaa

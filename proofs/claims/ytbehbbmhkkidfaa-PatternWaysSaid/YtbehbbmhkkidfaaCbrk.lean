/-
  class.Bracket, by what its items are. Conditions: those named at each law.
-/
import Derived.Test.YtbehbbmhkkidfaaCitem
namespace Go.Proofs.Ytbehbbmhkkidfaa
open Go.RowKit

theorem wp_scope_again {P : Program} {a : Act} {w : World} {Q : Exit → Act → World → Prop} {c after : Code} (l : Nat) (J : Act → World → Prop) (μ : Act → World → Nat) (hf : findLabel c l = some (.seq .skip after))
    (first : (∀ a w, J a w → after.wp P (Exit.jump l J Q) a w) → c.wp P (Exit.jump l J Q) a w)
    (pass : ∀ a w, J a w → after.wp P (Exit.jump l (fun a' w' => J a' w' ∧ μ a' w' < μ a w) Q) a w) : (Code.scope c).wp P Q a w :=
  wp_scope_jumps l J μ hf (first fun a w h => Code.wp_mono (fun e a' w' he => by
    cases e with
    | goto k => exact ⟨he.1, he.2.1⟩
    | _ => exact he) (pass a w h)) (fun a w h => wp_seq (wp_skip (pass a w h)))

/-- What the bracket at place n of a text is, S gathered so far: none, or its set and where its ] stands. -/
inductive Brk (M : World → Prop) (s : ByteArray) : Nat → (Nat → Nat) → Option ((Nat → Nat) × Nat) → Prop
  | bad {n : Nat} {S A : Nat → Nat} : OkS A → n ≤ s.size → ItemC M (s.extract n s.size) (A, 0) → Brk M s n S none
  | last {n k : Nat} {S A : Nat → Nat} : OkS A → ItemC M (s.extract n s.size) (A, k) → 0 < k → n + k ≤ s.size → pre ⟨#[93]⟩ (s.extract (n + k) s.size) = true → Brk M s n S (some (bothS S A, n + k))
  | more {n k : Nat} {S A : Nat → Nat} {r : Option ((Nat → Nat) × Nat)} : OkS A → ItemC M (s.extract n s.size) (A, k) → 0 < k → n + k ≤ s.size → pre ⟨#[93]⟩ (s.extract (n + k) s.size) = false → Brk M s (n + k) (bothS S A) r → Brk M s n S r
def brkV (nt : Bool) : Option ((Nat → Nat) × Nat) → Value
  | none => .tuple #[setV noS, .int .i64 0, .int .i64 81]
  | some (S, n) => .tuple #[setV (if nt = true then notS (withS S 10 10) else S), .int .i64 ((n + 1 : Nat) : Int), .int .i64 0]

def BrkW (w wr : World) (S : Nat → Nat) : Prop :=
  ((wr.cell? ⟨w.heap.size, 0, none⟩ = some (.int .u64 0) ∧ wr.cell? ⟨w.heap.size, 1, none⟩ = some (.int .u64 0) ∧ wr.cell? ⟨w.heap.size, 2, none⟩ = some (.int .u64 0) ∧ wr.cell? ⟨w.heap.size, 3, none⟩ = some (.int .u64 0)) ∧
   (wr.frozen? ⟨w.heap.size, 0, none⟩ = false ∧ wr.frozen? ⟨w.heap.size, 1, none⟩ = false ∧ wr.frozen? ⟨w.heap.size, 2, none⟩ = false ∧ wr.frozen? ⟨w.heap.size, 3, none⟩ = false)) ∧
  ((wr.cell? ⟨w.heap.size + 1, 0, none⟩ = some (.int .u64 (S 0)) ∧ wr.cell? ⟨w.heap.size + 1, 1, none⟩ = some (.int .u64 (S 1)) ∧ wr.cell? ⟨w.heap.size + 1, 2, none⟩ = some (.int .u64 (S 2)) ∧ wr.cell? ⟨w.heap.size + 1, 3, none⟩ = some (.int .u64 (S 3))) ∧
   (wr.frozen? ⟨w.heap.size + 1, 0, none⟩ = false ∧ wr.frozen? ⟨w.heap.size + 1, 1, none⟩ = false ∧ wr.frozen? ⟨w.heap.size + 1, 2, none⟩ = false ∧ wr.frozen? ⟨w.heap.size + 1, 3, none⟩ = false)) ∧
  Below w.heap.size w wr ∧ w.heap.size + 2 ≤ wr.heap.size

theorem BrkW.below {w wr w1 : World} {S : Nat → Nat} (h : BrkW w wr S) (hb : Below wr.heap.size wr w1) : BrkW w w1 S := by
  obtain ⟨⟨⟨a0, a1, a2, a3⟩, b0, b1, b2, b3⟩, ⟨⟨c0, c1, c2, c3⟩, d0, d1, d2, d3⟩, hB, hs⟩ := h
  have l0 : w.heap.size < wr.heap.size := by omega
  have l1 : w.heap.size + 1 < wr.heap.size := by omega
  refine ⟨⟨⟨?_, ?_, ?_, ?_⟩, ?_, ?_, ?_, ?_⟩, ⟨⟨?_, ?_, ?_, ?_⟩, ?_, ?_, ?_, ?_⟩, hB.trans (hb.mono hB.size), Nat.le_trans hs hb.size⟩
  all_goals first | (rw [hb.cell (by assumption)]; assumption) | (rw [hb.frozen (by assumption)]; assumption)
theorem BrkW.store {w wr : World} {S : Nat → Nat} (h : BrkW w wr S) (A : Nat → Nat) :
    BrkW w ((((wr.setCell ⟨w.heap.size + 1, 0, none⟩ (.int .u64 (A 0))).setCell ⟨w.heap.size + 1, 1, none⟩ (.int .u64 (A 1))).setCell ⟨w.heap.size + 1, 2, none⟩ (.int .u64 (A 2))).setCell ⟨w.heap.size + 1, 3, none⟩ (.int .u64 (A 3))) A := by
  obtain ⟨⟨⟨a0, a1, a2, a3⟩, b0, b1, b2, b3⟩, ⟨⟨c0, c1, c2, c3⟩, d0, d1, d2, d3⟩, hB, hs⟩ := h
  refine ⟨⟨⟨?_, ?_, ?_, ?_⟩, ?_, ?_, ?_, ?_⟩, ⟨⟨?_, ?_, ?_, ?_⟩, ?_, ?_, ?_, ?_⟩, below4 hB (Nat.le_succ _) _ _ _ _, by simpa [World.setCell] using hs⟩
  all_goals simp [go_sem, *]
theorem brk_start (w : World) : BrkW w ((w.alloc (.cells #[.int .u64 0, .int .u64 0, .int .u64 0, .int .u64 0] 27)).alloc (.cells #[.int .u64 0, .int .u64 0, .int .u64 0, .int .u64 0] 27)) noS := by
  refine ⟨⟨⟨?_, ?_, ?_, ?_⟩, ?_, ?_, ?_, ?_⟩, ⟨⟨?_, ?_, ?_, ?_⟩, ?_, ?_, ?_, ?_⟩, ((Below.refl _ w).alloc (Nat.le_refl _) _).alloc (by simp) _, by simp⟩
  all_goals simp [go_sem, noS]
theorem pre_size {p s : ByteArray} (h : pre p s = true) : p.size ≤ s.size := by
  have := List.IsPrefix.length_le (List.isPrefixOf_iff_prefix.1 h)
  simpa using this

set_option maxRecDepth 100000 in
set_option maxHeartbeats 2000000 in
theorem bracket_is (M : World → Prop) (hM : ∀ (w w' : World), M w → Below w.heap.size w w' → M w') (s : ByteArray) (nt : Bool) (hnt : pre ⟨#[94]⟩ s = nt) (r : Option ((Nat → Nat) × Nat)) (hr : Brk M s (if nt = true then 1 else 0) noS r) (hs : s.size ≤ 281474976710656) (w : World) (hMw : M w) :
    Calls Try.prog 38 #[.string s] w fun e w' => e = .returned (brkV nt r) ∧ Below w.heap.size w w' := by
  have HN := Lib.hid (has_prefix s ⟨#[94]⟩)
  rw [hnt] at HN
  have HNT := Lib.hid hnt
  have HR := Lib.hid hr
  have HS := Lib.hid hs
  have HMB := Lib.hid hM
  clear hnt hr hs hM
  go_enter Try.func38, Try.ntmps38
  go_wp2_with fail
  refine wp_scope_again 0 (fun a' w' => ∃ (n : Nat) (S : Nat → Nat) (u8 u9 u10 u11 u12 u13 u14 u15 u16 u17 u18 u19 u20 u21 u22 u23 u24 u25 u26 u27 u28 u29 u30 u31 u32 u33 u34 u35 u36 u37 u38 u39 u40 u41 u42 : Value), Brk M s n S r ∧ OkS S ∧ BrkW w w' S ∧ n ≤ s.size ∧ a' = { tmps := #[.string s, undef, .pointer (some ⟨w.heap.size, 0, none⟩), .int .i64 0, .int .i64 0, .pointer (some ⟨w.heap.size + 1, 0, none⟩), .int .i64 (n : Int), .bool nt, u8, u9, u10, u11, u12, u13, u14, u15, u16, u17, u18, u19, u20, u21, u22, u23, u24, u25, u26, u27, u28, u29, u30, u31, u32, u33, u34, u35, u36, u37, u38, u39, u40, u41, u42], defers := [] }) (fun a' _ => s.size - (intOf (a'.tmps.getD 6 undef)).toNat) rfl ?_ ?_
  · intro hp
    have HP := Lib.hid hp
    clear hp
    go_wp2_with fail
    go_at_call 34
    refine (HN.out _).mono ?_
    rintro e w1 ⟨rfl, rfl⟩
    cases nt with
    | false =>
      go_wp2_with fail
      go_step3
      simp only [Exit.then]
      rename_i hK
      exact hK _ _ (HP.out _ _ ⟨0, noS, _, _, _, _, _, _, _, _, _, _, _, _, _, _, _, _, _, _, _, _, _, _, _, _, _, _, _, _, _, _, _, _, _, _, _, HR.out, OkS.no, brk_start w, Nat.zero_le _, rfl⟩)
    | true =>
      go_wp2_with fail
      go_step3
      simp only [Exit.then]
      rename_i hK
      exact hK _ _ (HP.out _ _ ⟨1, noS, _, _, _, _, _, _, _, _, _, _, _, _, _, _, _, _, _, _, _, _, _, _, _, _, _, _, _, _, _, _, _, _, _, _, _, HR.out, OkS.no, brk_start w, pre_size HNT.out, rfl⟩)
  · rintro a' wr ⟨n, S, u8, u9, u10, u11, u12, u13, u14, u15, u16, u17, u18, u19, u20, u21, u22, u23, u24, u25, u26, u27, u28, u29, u30, u31, u32, u33, u34, u35, u36, u37, u38, u39, u40, u41, u42, hbrk, hS, hW, hn, rfl⟩
    have hni : (n : Int) ≤ (s.size : Int) := by omega
    have hW' := hW
    obtain ⟨⟨⟨a0, a1, a2, a3⟩, b0, b1, b2, b3⟩, ⟨⟨c0, c1, c2, c3⟩, d0, d1, d2, d3⟩, hB, hsz⟩ := hW'
    cases hbrk with
    | @bad _ _ A hA hn' hI =>
      unfold ItemC setV at hI
      dsimp only at hI
      have HI := Lib.hid hI
      clear hI
      go_wp2_with fail
      go_at_call 44
      refine (HI.out _ (HMB.out _ _ hMw hB)).mono ?_
      rintro e w1 ⟨rfl, hb1⟩
      have hW1 := (hW.below hb1).below ((Below.refl _ w1).alloc (Nat.le_refl _) (.cells #[.int .u64 (A 0), .int .u64 (A 1), .int .u64 (A 2), .int .u64 (A 3)] 27))
      obtain ⟨⟨⟨x0, x1, x2, x3⟩, y0, y1, y2, y3⟩, ⟨⟨z0, z1, z2, z3⟩, v0, v1, v2, v3⟩, hB1, hsz1⟩ := hW.below hb1
      have l0 : w.heap.size < w1.heap.size := by omega
      have l1 : w.heap.size + 1 < w1.heap.size := by omega
      have HW1 := Lib.hid hW1
      clear hW1 hb1 a0 a1 a2 a3 b0 b1 b2 b3 c0 c1 c2 c3 d0 d1 d2 d3
      go_wp2_with fail
      simp only [Exit.jump]
      refine bodyPost_ret (v := brkV nt none) (by simp [results, Try.results38, go_sem, brkV, setV, noS, x0, x1, x2, x3, l0]) rfl ⟨rfl, ?_⟩
      exact (below4 hB1 (Nat.le_refl _) _ _ _ _).alloc (by simpa [World.setCell] using Nat.le_of_lt l0) _
    | @last _ k _ A hA hI hk hnk hp =>
      have hni2 : ((n : Int) + (k : Int)) ≤ (s.size : Int) := by omega
      have hkz : ((k : Int) == 0) = false := by rw [beq_eq_false_iff_ne]; omega
      have hwr : wrap64 ((n : Int) + (k : Int)) = (n : Int) + (k : Int) := IntWalk.wrap64_in _ (by have := HS.out; omega)
      unfold ItemC setV at hI
      dsimp only at hI
      have HI := Lib.hid hI
      clear hI
      go_wp2_with fail
      go_at_call 44
      refine (HI.out _ (HMB.out _ _ hMw hB)).mono ?_
      rintro e w1 ⟨rfl, hb1⟩
      have hW1 := (hW.below hb1).below ((Below.refl _ w1).alloc (Nat.le_refl _) (.cells #[.int .u64 (A 0), .int .u64 (A 1), .int .u64 (A 2), .int .u64 (A 3)] 27))
      obtain ⟨⟨⟨x0, x1, x2, x3⟩, y0, y1, y2, y3⟩, ⟨⟨z0, z1, z2, z3⟩, v0, v1, v2, v3⟩, hB1, hsz1⟩ := hW.below hb1
      have l0 : w.heap.size < w1.heap.size := by omega
      have l1 : w.heap.size + 1 < w1.heap.size := by omega
      have HW1 := Lib.hid hW1
      clear hW1 hb1 a0 a1 a2 a3 b0 b1 b2 b3 c0 c1 c2 c3 d0 d1 d2 d3
      have HBO := Lib.hid (both_is S A hS hA)
      unfold setV at HBO
      have HPR := Lib.hid (has_prefix (s.extract (n + k) s.size) ⟨#[93]⟩)
      rw [hp] at HPR
      clear hp
      go_wp2_with fail
      go_at_call 45
      refine (HBO.out _).mono ?_
      rintro e w2 ⟨rfl, hb2⟩
      have hW2 := HW1.out.below hb2
      have HW3 := Lib.hid (hW2.store (bothS S A))
      obtain ⟨⟨⟨p0, p1, p2, p3⟩, q0, q1, q2, q3⟩, ⟨⟨r0, r1, r2, r3⟩, t0, t1, t2, t3⟩, hB2, hsz2⟩ := hW2
      clear hb2 x0 x1 x2 x3 y0 y1 y2 y3 z0 z1 z2 z3 v0 v1 v2 v3 hB hsz
      go_wp2_with fail
      go_at_call 34
      obtain ⟨w3, hw3⟩ : ∃ w3, w3 = ((((w2.setCell ⟨w.heap.size + 1, 0, none⟩ (.int .u64 ((bothS S A) 0))).setCell ⟨w.heap.size + 1, 1, none⟩ (.int .u64 ((bothS S A) 1))).setCell ⟨w.heap.size + 1, 2, none⟩ (.int .u64 ((bothS S A) 2))).setCell ⟨w.heap.size + 1, 3, none⟩ (.int .u64 ((bothS S A) 3))) := ⟨_, rfl⟩
      rw [← hw3] at HW3 ⊢
      clear hw3 p0 p1 p2 p3 q0 q1 q2 q3 r0 r1 r2 r3 t0 t1 t2 t3
      rw [hwr]
      refine (HPR.out _).mono ?_
      rintro e w4 ⟨rfl, rfl⟩
      have HBR := Lib.hid hB2
      clear hB2
      obtain ⟨⟨⟨x0, x1, x2, x3⟩, y0, y1, y2, y3⟩, ⟨⟨z0, z1, z2, z3⟩, v0, v1, v2, v3⟩, hB3, hsz3⟩ := HW3.out
      obtain ⟨T, hT⟩ : ∃ T, T = bothS S A := ⟨_, rfl⟩
      rw [← hT] at z0 z1 z2 z3 ⊢
      have HOT := Lib.hid (show OkS T by rw [hT]; exact hS.both hA)
      have hw1 : wrap64 ((n : Int) + (k : Int) + 1) = (n : Int) + (k : Int) + 1 := IntWalk.wrap64_in _ (by have := HS.out; omega)
      rw [← hT] at HW3
      have HT := Lib.hid hT
      clear hT
      cases nt with
      | false =>
        go_wp2_with fail
        simp only [Exit.jump]
        refine bodyPost_ret (v := brkV false (some (T, n + k))) (by simp [results, Try.results38, go_sem, brkV, setV, x0, x1, x2, x3]) rfl ⟨by rw [HT.out], ?_⟩
        exact below4 hB3 (Nat.le_refl _) _ _ _ _
      | true =>
        have HWI := Lib.hid fun (W : World) => with_is T 10 10 HOT.out (by decide) (by decide) W
        have HNO := Lib.hid fun (W : World) => not_is (withS T 10 10) (HOT.out.withS _ _) W
        unfold setV at HWI HNO
        go_wp2_with fail
        go_at_call 42
        refine (HWI.out _).mono ?_
        rintro e w5 ⟨rfl, hb5⟩
        go_wp2_with fail
        go_at_call 37
        refine (HNO.out _).mono ?_
        rintro e w6 ⟨rfl, hb6⟩
        have hW6 := (HW3.out.below hb5).below hb6
        obtain ⟨N, hN⟩ : ∃ N, N = notS (withS T 10 10) := ⟨_, rfl⟩
        rw [← hN]
        have HN2 := Lib.hid hN
        have HW7 := Lib.hid (hW6.store N)
        clear hN hb5 hb6 x0 x1 x2 x3 y0 y1 y2 y3 z0 z1 z2 z3 v0 v1 v2 v3 hB3 hsz3
        obtain ⟨⟨⟨x0, x1, x2, x3⟩, y0, y1, y2, y3⟩, ⟨⟨z0, z1, z2, z3⟩, v0, v1, v2, v3⟩, hB3, hsz3⟩ := hW6
        go_wp2_with fail
        simp only [Exit.jump]
        refine bodyPost_ret (v := brkV true (some (T, n + k))) (by simp [results, Try.results38, go_sem, brkV, setV, x0, x1, x2, x3, ← HN2.out]) rfl ⟨by rw [HT.out], ?_⟩
        exact below4 (below4 hB3 (Nat.le_succ _) _ _ _ _) (Nat.le_refl _) _ _ _ _
    | @more _ k _ A _ hA hI hk hnk hp hr =>
      have hni2 : ((n : Int) + (k : Int)) ≤ (s.size : Int) := by omega
      have hkz : ((k : Int) == 0) = false := by rw [beq_eq_false_iff_ne]; omega
      have hwr : wrap64 ((n : Int) + (k : Int)) = (n : Int) + (k : Int) := IntWalk.wrap64_in _ (by have := HS.out; omega)
      unfold ItemC setV at hI
      dsimp only at hI
      have HI := Lib.hid hI
      clear hI
      go_wp2_with fail
      go_at_call 44
      refine (HI.out _ (HMB.out _ _ hMw hB)).mono ?_
      rintro e w1 ⟨rfl, hb1⟩
      have hW1 := (hW.below hb1).below ((Below.refl _ w1).alloc (Nat.le_refl _) (.cells #[.int .u64 (A 0), .int .u64 (A 1), .int .u64 (A 2), .int .u64 (A 3)] 27))
      obtain ⟨⟨⟨x0, x1, x2, x3⟩, y0, y1, y2, y3⟩, ⟨⟨z0, z1, z2, z3⟩, v0, v1, v2, v3⟩, hB1, hsz1⟩ := hW.below hb1
      have l0 : w.heap.size < w1.heap.size := by omega
      have l1 : w.heap.size + 1 < w1.heap.size := by omega
      have HW1 := Lib.hid hW1
      clear hW1 hb1 a0 a1 a2 a3 b0 b1 b2 b3 c0 c1 c2 c3 d0 d1 d2 d3
      have HBO := Lib.hid (both_is S A hS hA)
      unfold setV at HBO
      have HPR := Lib.hid (has_prefix (s.extract (n + k) s.size) ⟨#[93]⟩)
      rw [hp] at HPR
      clear hp
      go_wp2_with fail
      go_at_call 45
      refine (HBO.out _).mono ?_
      rintro e w2 ⟨rfl, hb2⟩
      have hW2 := HW1.out.below hb2
      have HW3 := Lib.hid (hW2.store (bothS S A))
      obtain ⟨⟨⟨p0, p1, p2, p3⟩, q0, q1, q2, q3⟩, ⟨⟨r0, r1, r2, r3⟩, t0, t1, t2, t3⟩, hB2, hsz2⟩ := hW2
      clear hb2 x0 x1 x2 x3 y0 y1 y2 y3 z0 z1 z2 z3 v0 v1 v2 v3 hB hsz
      go_wp2_with fail
      go_at_call 34
      obtain ⟨w3, hw3⟩ : ∃ w3, w3 = ((((w2.setCell ⟨w.heap.size + 1, 0, none⟩ (.int .u64 ((bothS S A) 0))).setCell ⟨w.heap.size + 1, 1, none⟩ (.int .u64 ((bothS S A) 1))).setCell ⟨w.heap.size + 1, 2, none⟩ (.int .u64 ((bothS S A) 2))).setCell ⟨w.heap.size + 1, 3, none⟩ (.int .u64 ((bothS S A) 3))) := ⟨_, rfl⟩
      rw [← hw3] at HW3 ⊢
      clear hw3 p0 p1 p2 p3 q0 q1 q2 q3 r0 r1 r2 r3 t0 t1 t2 t3
      rw [hwr]
      refine (HPR.out _).mono ?_
      rintro e w4 ⟨rfl, rfl⟩
      have HBR := Lib.hid hB2
      clear hB2
      go_wp2_with fail
      go_step3
      exact ⟨rfl, ⟨n + k, bothS S A, _, _, _, _, _, _, _, _, _, _, _, _, _, _, _, _, _, _, _, _, _, _, _, _, _, _, _, _, _, _, _, _, _, _, _, hr, hS.both hA, HW3.out, hnk, rfl⟩, by simp [intOf]; omega⟩
end Go.Proofs.Ytbehbbmhkkidfaa

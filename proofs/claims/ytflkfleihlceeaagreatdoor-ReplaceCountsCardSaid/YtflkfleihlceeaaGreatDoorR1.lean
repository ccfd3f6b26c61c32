/-
 Package replace's leaves: what a span covers in a text, what a piece is of a match. No condition.
-/
import Derived.Test.YtflkfleihlceeaaGreatDoorDMst
namespace Go.Proofs.YtflkfleihlceeaaGreatDoor
open Go.RowKit Go.Deep
def covP (s : ByteArray) (p : Int × Int) : ByteArray := if p.1 < 0 \/ p.2 < p.1 \/ (s.size : Int) < p.2 then ⟨#[]⟩ else s.extract p.1.toNat p.2.toNat
set_option maxRecDepth 100000 in
set_option maxHeartbeats 1000000 in
theorem covered_is (s : ByteArray) (i j : Int) (w : World) : Calls Tryz.prog 91 #[.string s, .agg #[.int .i64 i, .int .i64 j]] w fun e w' => e = .returned (.string (covP s (i, j))) /\ Below w.heap.size w w' := by
 go_enter Tryz.func91, Tryz.ntmps91;by_cases h1 : i < 0
 ·have hc : covP s (i, j) = ⟨#[]⟩ := if_pos (.inl h1);have d1 : decide (i < 0) = true := dqt h1;go_wp2_with fail;go_ret;exact ⟨by first | rfl | (rw [hc]; rfl), bW w _⟩
 have d1 : decide (i < 0) = false := dqf h1;by_cases h2 : j < i
 ·have hc : covP s (i, j) = ⟨#[]⟩ := if_pos (.inr (.inl h2));have d2 : decide (j < i) = true := dqt h2;go_wp2_with fail;go_ret;exact ⟨by first | rfl | (rw [hc]; rfl), bW w _⟩
 have d2 : decide (j < i) = false := dqf h2;by_cases h3 : (s.size : Int) < j
 ·have hc : covP s (i, j) = ⟨#[]⟩ := if_pos (.inr (.inr h3));have d3 : decide ((s.size : Int) < j) = true := dqt h3;go_wp2_with fail;go_ret;exact ⟨by first | rfl | (rw [hc]; rfl), bW w _⟩
 have d3 : decide ((s.size : Int) < j) = false := dqf h3;have hc : covP s (i, j) = s.extract i.toNat j.toNat := if_neg fun h => by rcases h with h | h | h <;> simp only at h <;> omega
 obtain ⟨a, rfl⟩ : ∃ a : Nat, i = (a : Int) := ⟨i.toNat, by omega⟩;obtain ⟨b, rfl⟩ : ∃ b : Nat, j = (b : Int) := ⟨j.toNat, by omega⟩;have g1 : (0 : Int) <= (a : Int) := (by omega);have g2 : (a : Int) <= (b : Int) := (by omega);have g3 : (b : Int) <= (s.size : Int) := (by omega);have n2 : a <= b := (by omega);have n3 : b <= s.size := (by omega);go_wp2_with fail;go_ret;exact ⟨by first | rfl | (rw [hc]; rfl), bW w _⟩
def pieP (s : ByteArray) (sp : Sp) (p : ByteArray × Int) : ByteArray := if p.2 < 0 then p.1 else if p.2 < 10 then covP s (sp p.2.toNat) else ⟨#[]⟩
theorem ten (n : Nat) (h : n < 10) : n = 0 \/ n = 1 \/ n = 2 \/ n = 3 \/ n = 4 \/ n = 5 \/ n = 6 \/ n = 7 \/ n = 8 \/ n = 9 := by omega
theorem spC_at (sp : Sp) (k : Nat) (h : k < 10) : (spC sp)[k * 2]? = some (.int .i64 (sp k).1) /\ (spC sp)[k * 2 + 1]? = some (.int .i64 (sp k).2) := by
 rcases ten k h with rfl | rfl | rfl | rfl | rfl | rfl | rfl | rfl | rfl | rfl <;> exact ⟨rfl, rfl⟩
set_option maxRecDepth 100000 in
set_option maxHeartbeats 1000000 in
theorem piece_is (s T : ByteArray) (N : Int) (sp : Sp) (w : World) : Calls Tryz.prog 65 #[.agg #[.string T, .int .i64 N], .string s, .agg (spC sp)] w fun e w' => e = .returned (.string (pieP s sp (T, N))) /\ Below w.heap.size w w' := by
 obtain ⟨C, hC⟩ : ∃ C, C = spC sp := ⟨_, rfl⟩;rw [<- hC];have HC := lh hC;have hsz : C.size = 20 := (by rw [hC]; rfl);clear hC;go_enter Tryz.func65, Tryz.ntmps65;by_cases h1 : N < 0
 ·have hc := lh (show pieP s sp (T, N) = T from if_pos h1);have d1 : decide (N < 0) = true := dqt h1;go_wp2_with fail;go_ret;exact ⟨by rw [hc.out]; rfl, ((Below.refl _ w).alloc (nlr _) _).alloc (by simp) _⟩
 have d1 : decide (N < 0) = false := dqf h1;by_cases h2 : N < 10
 case neg =>
  have hc := lh (show pieP s sp (T, N) = ⟨#[]⟩ by simp [pieP, h1, h2]);have d2 : decide (N < 10) = false := dqf h2;go_wp2_with fail;go_ret;exact ⟨by rw [hc.out]; rfl, ((Below.refl _ w).alloc (nlr _) _).alloc (by simp) _⟩
 have d2 : decide (N < 10) = true := dqt h2;obtain ⟨k, rfl⟩ : ∃ k : Nat, N = (k : Int) := ⟨N.toNat, by omega⟩;have hk : k < 10 := (by omega);have h0 : (0 : Int) <= (k : Int) := (by omega);have hc := lh (show pieP s sp (T, (k : Int)) = covP s (sp k) by simp [pieP, h1, h2]);obtain ⟨W, hW⟩ : ∃ W, W = (w.alloc (.cells #[.string T, .int .i64 (k : Int)] 52)).alloc (.cells C 34) := ⟨_, rfl⟩;have hb := lh (show Below w.heap.size w W by rw [hW]; exact ((Below.refl _ w).alloc (nlr _) _).alloc (by simp) _)
 have ho : W.heap[w.heap.size + 1]? = some (.cells C 34 (0, 0)) := by
  have h := heap_alloc_new (w.alloc (.cells #[.string T, .int .i64 (k : Int)] 52)) (.cells C 34);rw [World.size_alloc] at h;rw [hW];exact h
 have c0 : W.cell? ⟨w.heap.size + 1, k * 2, none⟩ = some (.int .i64 (sp k).1) := (by rw [obc ho, HC.out]; exact (spC_at sp k hk).1);have c1 : W.cell? ⟨w.heap.size + 1, k * 2 + 1, none⟩ = some (.int .i64 (sp k).2) := (by rw [obc ho, HC.out]; exact (spC_at sp k hk).2)
 have b1 : W.cell? ⟨w.heap.size, 1, none⟩ = some (.int .i64 (k : Int)) := by
  rw [hW, obc ((heap_alloc_old _ _ (by simp)).trans (heap_alloc_new w _))];rfl
 go_upto_region 4 with fail;rw [<- hW];clear hW ho;go_wp2_with fail;go_at_call 91;refine (covered_is s (sp k).1 (sp k).2 W).mono ?_;rintro e w2 ⟨rfl, hb2⟩;have HB := lh (hb.out.trans (hb2.mono hb.out.size));clear hb2 c0 c1 b1;go_wp2_with fail;go_ret;exact ⟨by rw [hc.out]; rfl, HB.out⟩
end Go.Proofs.YtflkfleihlceeaaGreatDoor

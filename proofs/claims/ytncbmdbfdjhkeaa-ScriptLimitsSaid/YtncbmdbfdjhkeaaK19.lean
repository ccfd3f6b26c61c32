import Derived.Test.YtncbmdbfdjhkeaaK03
import Derived.Deep.Cut
/-
  A set with more bytes. Conditions: words of 64 bits, two bytes.
-/
namespace Go.Proofs.Ytncbmdbfdjhkeaa
open Go.RowKit
theorem below_drewNc {B m : Nat} {w w' : World} (h : Below B w w') : Below B w (w'.drewN m) := ⟨h.os, h.tape, h.output, h.size, h.block⟩
theorem shl_word (r : Nat) (hr : r < 64) : IntKind.u64.wrap (2 ^ r) = ((2 ^ r : Nat) : Int) := by
  have h : 2 ^ r < 18446744073709551616 := Nat.pow_lt_pow_right (by decide) hr
  rw [← u64_wrap _ h]; congr 1
theorem or_word (B : Nat → Nat) (hB : OkS B) (c k : Nat) (hk : c / 64 = k) : bits .or .u64 (B k : Int) (IntKind.u64.wrap (2 ^ (c % 64))) = (ins B c k : Int) := by
  have h : 2 ^ (c % 64) < 18446744073709551616 := Nat.pow_lt_pow_right (by decide) (Nat.mod_lt _ (by decide))
  rw [shl_word _ (Nat.mod_lt _ (by decide)), bits_or_u64_nat _ _ (hB k) h]
  unfold ins
  rw [if_pos hk.symm]
theorem ins_other (B : Nat → Nat) (c k : Nat) (hk : c / 64 ≠ k) : ins B c k = B k := by
  unfold ins
  rw [if_neg fun e => hk e.symm]
theorem set_word0 (w : World) (a b c d v m : Nat) : ((wordsW w a b c d).drewN m).setCell ⟨w.heap.size, 0, none⟩ (.int .u64 (v : Int)) = (wordsW w v b c d).drewN m := by
  unfold wordsW
  have h : ∀ (X : World) (p : Addr) (y : Value), (X.drewN m).setCell p y = (X.setCell p y).drewN m := fun _ _ _ => rfl
  rw [h, World.setCell_alloc_past (hn := by simp), World.setCell_alloc_at (hn := rfl)]
  rfl
theorem set_word1 (w : World) (a b c d v m : Nat) : ((wordsW w a b c d).drewN m).setCell ⟨w.heap.size, 1, none⟩ (.int .u64 (v : Int)) = (wordsW w a v c d).drewN m := by
  unfold wordsW
  have h : ∀ (X : World) (p : Addr) (y : Value), (X.drewN m).setCell p y = (X.setCell p y).drewN m := fun _ _ _ => rfl
  rw [h, World.setCell_alloc_past (hn := by simp), World.setCell_alloc_at (hn := rfl)]
  rfl
theorem set_word2 (w : World) (a b c d v m : Nat) : ((wordsW w a b c d).drewN m).setCell ⟨w.heap.size, 2, none⟩ (.int .u64 (v : Int)) = (wordsW w a b v d).drewN m := by
  unfold wordsW
  have h : ∀ (X : World) (p : Addr) (y : Value), (X.drewN m).setCell p y = (X.setCell p y).drewN m := fun _ _ _ => rfl
  rw [h, World.setCell_alloc_past (hn := by simp), World.setCell_alloc_at (hn := rfl)]
  rfl
theorem set_word3 (w : World) (a b c d v m : Nat) : ((wordsW w a b c d).drewN m).setCell ⟨w.heap.size, 3, none⟩ (.int .u64 (v : Int)) = (wordsW w a b c v).drewN m := by
  unfold wordsW
  have h : ∀ (X : World) (p : Addr) (y : Value), (X.drewN m).setCell p y = (X.setCell p y).drewN m := fun _ _ _ => rfl
  rw [h, World.setCell_alloc_past (hn := by simp), World.setCell_alloc_at (hn := rfl)]
  rfl
def WithRel (A : Nat → Nat) (lo hi : Nat) (w : World) (i : Value) (wr : World) : Prop :=
  ∃ n m, lo + n ≤ hi + 1 ∧ i = .int .i64 ((lo + n : Nat) : Int) ∧ wr = (wordsW w (insN A lo n 0) (insN A lo n 1) (insN A lo n 2) (insN A lo n 3)).drewN m
set_option maxRecDepth 100000 in
set_option maxHeartbeats 4000000 in
theorem with_is (A : Nat → Nat) (lo hi : Nat) (hA : OkS A) (hlo : lo < 256) (hhi : hi < 256) (w : World) : Calls Try.prog 92 #[setV A, .int .u8 (lo : Int), .int .u8 (hi : Int)] w fun e w' => e = .returned (setV (withS A lo hi)) ∧ Below w.heap.size w w' := by
  unfold setV
  have HA := Lib.hid hA
  clear hA
  go_enter Try.func92, Try.ntmps92
  go_wp2_with fail
  go_loopw [7] (fun i wr => WithRel A lo hi w i wr ∨ (hi + 1 < lo ∧ i = .int .i64 (lo : Int) ∧ wr = wordsW w (A 0) (A 1) (A 2) (A 3))) (fun i _ => 256 - (intOf i).toNat)
  case atStart =>
    by_cases h : hi + 1 < lo
    · exact .inr ⟨h, rfl, rfl⟩
    · exact .inl ⟨0, 0, by omega, rfl, rfl⟩
  case round =>
    rcases hrel with ⟨n, m, hn, rfl, rfl⟩ | ⟨h0, rfl, rfl⟩
    · unfold wordsW
      obtain ⟨c, hc⟩ : ∃ c, c = lo + n := ⟨_, rfl⟩
      rw [← hc]
      obtain ⟨B, hB⟩ : ∃ B, B = insN A lo n := ⟨_, rfl⟩
      rw [← hB]
      have HOK := Lib.hid (show OkS B by rw [hB]; exact HA.out.insN lo n)
      have HB := Lib.hid hB
      clear hB
      by_cases hlt : c ≤ hi
      · have hle : (c : Int) ≤ (hi : Int) := by omega
        have HC := Lib.hid hc
        have hc0 : (0 : Int) ≤ (c : Int) := by omega
        have hc1 : (c : Int) < 256 := by omega
        have HN := Lib.hid hn
        have q4 : c / 64 = 0 ∨ c / 64 = 1 ∨ c / 64 = 2 ∨ c / 64 = 3 := by omega
        clear hc hn
        go_upto_region 4 with fail
        rcases q4 with hq | hq | hq | hq
        · have hb := or_word B HOK.out c 0 hq
          have hw : wrap64 ((c : Int) + 1) = (c : Int) + 1 := IntWalk.wrap64_in _ (by omega)
          go_region
          have e := set_word0 w (B 0) (B 1) (B 2) (B 3) (ins B c 0) (m + 1)
          unfold wordsW at e
          rw [e]
          clear e
          have HQ := Lib.hid hq
          clear hq
          go_wp2_with fail
          have hj : ∀ j, insN A lo (n + 1) j = ins B c j := fun j => by rw [HB.out, HC.out]; rfl
          refine ⟨.inl ⟨n + 1, m + 1, by have := HC.out; omega, by rw [HC.out]; congr 1, ?_⟩, by simp only [intOf]; omega⟩
          have hq := HQ.out
          unfold wordsW
          rw [hj 0, hj 1, hj 2, hj 3, ins_other B c 1 (by omega), ins_other B c 2 (by omega), ins_other B c 3 (by omega)]
        · have hb := or_word B HOK.out c 1 hq
          have hw : wrap64 ((c : Int) + 1) = (c : Int) + 1 := IntWalk.wrap64_in _ (by omega)
          go_region
          have e := set_word1 w (B 0) (B 1) (B 2) (B 3) (ins B c 1) (m + 1)
          unfold wordsW at e
          rw [e]
          clear e
          have HQ := Lib.hid hq
          clear hq
          go_wp2_with fail
          have hj : ∀ j, insN A lo (n + 1) j = ins B c j := fun j => by rw [HB.out, HC.out]; rfl
          refine ⟨.inl ⟨n + 1, m + 1, by have := HC.out; omega, by rw [HC.out]; congr 1, ?_⟩, by simp only [intOf]; omega⟩
          have hq := HQ.out
          unfold wordsW
          rw [hj 0, hj 1, hj 2, hj 3, ins_other B c 0 (by omega), ins_other B c 2 (by omega), ins_other B c 3 (by omega)]
        · have hb := or_word B HOK.out c 2 hq
          have hw : wrap64 ((c : Int) + 1) = (c : Int) + 1 := IntWalk.wrap64_in _ (by omega)
          go_region
          have e := set_word2 w (B 0) (B 1) (B 2) (B 3) (ins B c 2) (m + 1)
          unfold wordsW at e
          rw [e]
          clear e
          have HQ := Lib.hid hq
          clear hq
          go_wp2_with fail
          have hj : ∀ j, insN A lo (n + 1) j = ins B c j := fun j => by rw [HB.out, HC.out]; rfl
          refine ⟨.inl ⟨n + 1, m + 1, by have := HC.out; omega, by rw [HC.out]; congr 1, ?_⟩, by simp only [intOf]; omega⟩
          have hq := HQ.out
          unfold wordsW
          rw [hj 0, hj 1, hj 2, hj 3, ins_other B c 0 (by omega), ins_other B c 1 (by omega), ins_other B c 3 (by omega)]
        · have hb := or_word B HOK.out c 3 hq
          have hw : wrap64 ((c : Int) + 1) = (c : Int) + 1 := IntWalk.wrap64_in _ (by omega)
          go_region
          have e := set_word3 w (B 0) (B 1) (B 2) (B 3) (ins B c 3) (m + 1)
          unfold wordsW at e
          rw [e]
          clear e
          have HQ := Lib.hid hq
          clear hq
          go_wp2_with fail
          have hj : ∀ j, insN A lo (n + 1) j = ins B c j := fun j => by rw [HB.out, HC.out]; rfl
          refine ⟨.inl ⟨n + 1, m + 1, by have := HC.out; omega, by rw [HC.out]; congr 1, ?_⟩, by simp only [intOf]; omega⟩
          have hq := HQ.out
          unfold wordsW
          rw [hj 0, hj 1, hj 2, hj 3, ins_other B c 0 (by omega), ins_other B c 1 (by omega), ins_other B c 2 (by omega)]
      · have hle : (hi : Int) < (c : Int) := by omega
        have hW := Lib.hid (show withS A lo hi = B by rw [HB.out]; unfold withS; congr 1; omega)
        clear hc hn hlt
        go_wp2_with fail
        refine bodyPost_ret (v := setV B) (by simp [results, Try.results92, go_sem, setV]) rfl ⟨by rw [hW.out]; rfl, ?_⟩
        exact (((((below_drewNc (((Below.refl _ w).alloc (Nat.le_refl _) _).alloc (by simp) _)).setCell (Nat.le_succ _) _).setCell (Nat.le_succ _) _).setCell (Nat.le_succ _) _).setCell (Nat.le_succ _) _)
    · have hle : (hi : Int) < (lo : Int) := by omega
      have hW := Lib.hid (show withS A lo hi = A by unfold withS; rw [show hi + 1 - lo = 0 by omega]; rfl)
      clear h0
      unfold wordsW
      go_wp2_with fail
      refine bodyPost_ret (v := setV A) (by simp [results, Try.results92, go_sem, setV]) rfl ⟨by rw [hW.out]; rfl, ?_⟩
      exact (((Below.refl _ w).alloc (Nat.le_refl _) _).alloc (by simp) _)
end Go.Proofs.Ytncbmdbfdjhkeaa

/-
  What the document's answer takes of bytes: the record of the frame that they begin with, in new memory, and its length, or the error. Condition: the bytes lie in memory.
-/
import Derived.Test.YtpfdlcogldbocaaTake
namespace Go.Proofs.Ytpfdlcogldbocaa
open Go.RowKit Go.Deep

theorem cell_at0 {w : World} {A : Option Addr} {b : List UInt8} (hA : BytesAt w A b) (i : Nat) (hi : i < b.length) : ∃ g o, A = some ⟨g, o, none⟩ ∧ w.cell? ⟨g, o + i, none⟩ = some (.int .u8 (at0 b i)) := by
  obtain ⟨g, o, e, h⟩ := hA i b[i] (List.getElem?_eq_getElem hi)
  refine ⟨g, o, e, ?_⟩
  rw [h, at0_of (List.getElem?_eq_getElem hi)]
  rfl

set_option maxRecDepth 100000 in
set_option maxHeartbeats 2000000 in
theorem refTake_bad (A : Option Addr) (b : List UInt8) (cap : Nat) (w : World) (hA : BytesAt w A b) (hm : b.length ≤ maxLen) (h : hdrE b ≠ 0) :
    Calls Try.prog 54 #[.slice A b.length cap] w (TakeNone b w) := by
  have hT : TakeNone b w (.returned (.tuple #[.slice none 0 0, .int .i64 0, .int .i64 (hdrE b : Int)])) w := ⟨by rw [takeE_bad h], Below.refl _ _⟩
  have hc := fun i hi => cell_at0 hA i hi
  have l0 := at0_lt b 0
  have l2 := at0_lt b 2
  have hh : hdrE b = if (0 < b.length ∧ at0 b 0 ≠ 167) ∨ (2 < b.length ∧ 16 ≤ at0 b 2) then 41 else if b.length < 3 then 42 else 0 := rfl
  obtain ⟨x0, e0⟩ : ∃ x, x = at0 b 0 := ⟨_, rfl⟩
  obtain ⟨x2, e2⟩ : ∃ x, x = at0 b 2 := ⟨_, rfl⟩
  obtain ⟨n, en⟩ : ∃ n, n = b.length := ⟨_, rfl⟩
  rw [← e0, ← e2, ← en] at hh
  rw [← e0] at l0
  rw [← e2] at l2
  rw [← en] at hc hm ⊢
  unfold maxLen at hm
  by_cases hn : n = 0
  · rw [if_neg (by omega), if_pos (by omega)] at hh
    rw [hh] at hT
    have HT := Lib.hid hT
    subst hn
    clear hA h hT hh en e0 e2 hc l0 l2
    go_enter Try.func54, Try.ntmps54
    go_wp2
    go_ret3
    exact HT.out
  · obtain ⟨g, o, rfl, h0⟩ := hc 0 (by omega)
    rw [Nat.add_zero, ← e0] at h0
    by_cases hx : x0 = 167
    · by_cases h3 : n < 3
      · rw [if_neg (by omega), if_pos (by omega)] at hh
        rw [hh] at hT
        have HT := Lib.hid hT
        have t0 : ((x0 : Int) != 167) = false := by simp; omega
        have t1 : (0 : Int) < (n : Int) := by omega
        have t2 : ¬ (2 : Int) < (n : Int) := by omega
        have t3 : (n : Int) < 3 := by omega
        clear hA h hT hh en e0 e2 hc hx h3 hn
        go_enter Try.func54, Try.ntmps54
        go_wp2
        go_ret3
        exact HT.out
      · obtain ⟨g', o', e', h2⟩ := hc 2 (by omega)
        cases e'
        rw [← e2] at h2
        by_cases hx2 : 16 ≤ x2
        · rw [if_pos (.inr ⟨by omega, hx2⟩)] at hh
          rw [hh] at hT
          have HT := Lib.hid hT
          have t0 : ((x0 : Int) != 167) = false := by simp; omega
          have t1 : (0 : Int) < (n : Int) := by omega
          have t2 : (2 : Int) < (n : Int) := by omega
          have t3 : (16 : Int) ≤ (x2 : Int) := by omega
          clear hA h hT hh en e0 e2 hc hx h3 hn hx2
          go_enter Try.func54, Try.ntmps54
          go_wp2
          go_ret3
          exact HT.out
        · rw [if_neg (by omega), if_neg (by omega)] at hh
          exact absurd hh h
    · rw [if_pos (.inl ⟨by omega, hx⟩)] at hh
      rw [hh] at hT
      have HT := Lib.hid hT
      have t0 : ((x0 : Int) != 167) = true := by simp; omega
      have t1 : (0 : Int) < (n : Int) := by omega
      clear hA h hT hh en e0 e2 hc hx hn
      go_enter Try.func54, Try.ntmps54
      go_wp2
      go_ret3
      exact HT.out

set_option maxRecDepth 100000 in
set_option maxHeartbeats 2000000 in
theorem refTake_short (A : Option Addr) (b : List UInt8) (cap : Nat) (w : World) (hA : BytesAt w A b) (hm : b.length ≤ maxLen) (h : hdrE b = 0) (hs : b.length < 7 + ln b) :
    Calls Try.prog 54 #[.slice A b.length cap] w (TakeNone b w) := by
  have hT : ∀ N, TakeNone b w (.returned (.tuple #[.slice none 0 0, .int .i64 0, .int .i64 42])) (w.drewN N) := fun N => ⟨by rw [takeE_short h hs]; rfl, ⟨rfl, rfl, rfl, Nat.le_refl _, fun _ _ => rfl⟩⟩
  obtain ⟨h3, h0, h2⟩ := hdrE_zero.1 h
  obtain ⟨g, o, rfl, c0⟩ := cell_at0 hA 0 (by omega)
  obtain ⟨g', o', e', c1⟩ := cell_at0 hA 1 (by omega)
  cases e'
  obtain ⟨g', o', e', c2⟩ := cell_at0 hA 2 (by omega)
  cases e'
  rw [Nat.add_zero] at c0
  have l1 := at0_lt b 1
  have l2 := at0_lt b 2
  have hln : ln b = at0 b 1 + 256 * at0 b 2 + 1 := rfl
  obtain ⟨x0, e0⟩ : ∃ x, x = at0 b 0 := ⟨_, rfl⟩
  obtain ⟨x1, e1⟩ : ∃ x, x = at0 b 1 := ⟨_, rfl⟩
  obtain ⟨x2, e2⟩ : ∃ x, x = at0 b 2 := ⟨_, rfl⟩
  obtain ⟨n, en⟩ : ∃ n, n = b.length := ⟨_, rfl⟩
  obtain ⟨k, ek⟩ : ∃ k, k = ln b := ⟨_, rfl⟩
  rw [← e1, ← e2, ← ek] at hln
  rw [← e0] at c0 h0
  rw [← e1] at c1 l1
  rw [← e2] at c2 l2 h2
  rw [← en, ← ek] at hs
  rw [← en] at h3 hm ⊢
  unfold maxLen at hm
  have HT := Lib.hid hT
  have t0 : ((x0 : Int) != 167) = false := by simp; omega
  have t1 : (0 : Int) < (n : Int) := by omega
  have t2 : (2 : Int) < (n : Int) := by omega
  have t3 : ¬ (16 : Int) ≤ (x2 : Int) := by omega
  have t4 : ¬ (n : Int) < 3 := by omega
  have q1 : IntKind.i64.wrap (256 * (x2 : Int)) = 256 * (x2 : Int) := IntWalk.i64_in _ (by omega)
  have q2 : IntKind.i64.wrap ((x1 : Int) + 256 * (x2 : Int)) = (x1 : Int) + 256 * (x2 : Int) := IntWalk.i64_in _ (by omega)
  have q3 : IntKind.i64.wrap ((x1 : Int) + 256 * (x2 : Int) + 1) = (k : Int) := by rw [IntWalk.i64_in _ (by omega), hln]; simp
  have t5 : (n : Int) - 7 < (k : Int) := by omega
  clear hA h hT h0 h2 h3 hln e0 e1 e2 en ek hs
  go_enter Try.func54, Try.ntmps54
  go_wp2
  go_quiet (fail)
  go_wp2_with fail
  go_ret3
  exact HT.out _
end Go.Proofs.Ytpfdlcogldbocaa

/-
  The program's Text and Line. Condition: the rope is no longer than 65536 bytes.
-/
import Derived.Test.YtmcohbppeabmgaaRcopy
import Derived.Test.YtmcohbppeabmgaaRbeh
namespace Go.Proofs.Ytmcohbppeabmgaa
open Go.RowKit Go.Deep

theorem copied_is {w : World} {p : Option Addr} {l : List UInt8} (h : RopeIs w p l) (i j : Nat) (hij : i ≤ j) (hj : j ≤ l.length) :
    Calls Try.prog 37 #[.pointer p, .int .i64 (i : Int), .int .i64 (j : Int)] w (Answers (.string (txt ((l.take j).drop i))) w) := by
  obtain ⟨hl, ⟨rfl, rfl⟩ | ⟨b, t, rfl, ht, _, rfl⟩⟩ := h
  · have hj0 : j = 0 := by simpa using hj
    have hi0 : i = 0 := by omega
    subst hj0
    subst hi0
    exact copied_pcs w none _ _ 0 [] (by simp) (by omega) (.inl ⟨rfl, by omega, rfl⟩) (by simp)
  · have hf := pcs_flat t (i : Int) (j : Int) (by omega) (by omega) hl
    rw [Int.toNat_natCast, Int.toNat_natCast] at hf
    rw [← hf]
    exact copied_pcs w _ _ _ (j - i) _ (by omega) (by omega) (.inr ⟨b, t, rfl, ht, by omega, by omega, by omega, hl, rfl⟩) (pcs_le t _ _ (by omega) (by omega) hl)

set_option maxHeartbeats 1000000 in
theorem text_is {w : World} {p : Option Addr} {l : List UInt8} (h : RopeIs w p l) : Calls Try.prog 25 #[.pointer p] w (Answers (.string (txt l)) w) := by
  have HLEN := Lib.hid (len_is h)
  have hc := copied_is h 0 l.length (by omega) (Nat.le_refl _)
  rw [List.take_length, List.drop_zero, show ((0 : Nat) : Int) = 0 from rfl] at hc
  obtain ⟨n, en⟩ : ∃ n, n = l.length := ⟨_, rfl⟩
  rw [← en] at hc HLEN
  have HC := Lib.hid hc
  clear hc h en
  go_enter Try.func25, Try.ntmps25
  go_wp2_with fail
  go_at_call 38
  (with_reducible refine HLEN.out.mono ?_)
  rintro e w1 ⟨rfl, rfl⟩
  go_wp2_with fail
  go_at_call 37
  (with_reducible refine HC.out.mono ?_)
  rintro e w1 ⟨rfl, hb⟩
  have HB := Lib.hid hb
  clear hb
  go_wp2_with fail
  go_ret
  exact ⟨rfl, HB.out⟩

end Go.Proofs.Ytmcohbppeabmgaa

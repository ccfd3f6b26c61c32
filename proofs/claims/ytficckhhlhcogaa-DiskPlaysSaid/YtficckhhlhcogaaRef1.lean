/-
  The reference's small functions: which of m a raw number speaks of, and whether bytes are one. Conditions: those named at each contract.
-/
import Derived.Test.YtficckhhlhcogaaLast
namespace Go.Proofs.Ytficckhhlhcogaa
open Go.RowKit Go.Maps

theorem pick_any (n : Int) (m : Nat) (w : World) (hn : (Lit.int .i64 n).wf = true) (hm : 0 < m) (hm2 : m ≤ 1099511627776) :
    Calls Try.prog 27 #[.int .i64 n, .int .i64 (m : Int)] w fun e w' => e = .returned (.int .i64 (red n m : Int)) ∧ w = w' := by
  obtain ⟨b1, b2⟩ := i64_bounds hn
  have hm0 : (0 : Int) < (m : Int) := by omega
  by_cases h : n < 0
  · have e : (red n m : Int) = -((n + 1).tmod m) := by
      unfold red
      rw [if_pos h, Int.natCast_emod, Int.toNat_of_nonneg (by omega), ← Int.neg_tmod, Int.tmod_eq_emod_of_nonneg (by omega)]
    have E := Lib.hid e
    clear e
    go_enter Try.func27, Try.ntmps27
    go_wp2
    go_ret
    refine ⟨?_, rfl⟩
    rw [E.out]
    rfl
  · have e : (red n m : Int) = n % m := by
      unfold red
      rw [if_neg h, Int.natCast_emod, Int.toNat_of_nonneg (by omega)]
    have h' : 0 ≤ n := by omega
    have E := Lib.hid e
    clear e h
    go_enter Try.func27, Try.ntmps27
    go_wp2
    go_ret
    refine ⟨?_, rfl⟩
    rw [E.out]
    rfl

theorem same_eq (A B : Option Addr) (l : List UInt8) (c1 c2 : Nat) (w : World) (hA : BytesAt w A l) (hB : BytesAt w B l) (hl : 0 < l.length) :
    Calls Try.prog 29 #[.slice A l.length c1, .slice B l.length c2] w fun e w' => e = .returned (.bool true) ∧ w = w' := by
  have q1 := conv_at (cap := c1) hA hl
  have q2 := conv_at (cap := c2) hB hl
  clear hA hB
  go_enter Try.func29, Try.ntmps29
  go_wp2
  go_ret
  exact ⟨rfl, rfl⟩

theorem conv_nil (w : World) : (convert 31 9 (.slice none 0 0)).run Try.prog w = .ok (.string ⟨#[]⟩) w := by
  rw [run_convert_bytes_string w 31 9 5 none 0 0 Try.underlying31 Try.underlying5 Try.underlying9]
  simp [Conv.bytesToString]
  rfl
theorem same_nil (w : World) :
    Calls Try.prog 29 #[.slice none 0 0, .slice none 0 0] w fun e w' => e = .returned (.bool true) ∧ w = w' := by
  have q := conv_nil w
  go_enter Try.func29, Try.ntmps29
  go_wp2
  go_ret
  exact ⟨rfl, rfl⟩
end Go.Proofs.Ytficckhhlhcogaa

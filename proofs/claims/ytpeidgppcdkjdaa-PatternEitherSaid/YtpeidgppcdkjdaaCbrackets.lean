/-
  ClassBrackets. Conditions: a text; the world holds what strings.Index asks.
-/
import Derived.Test.YtpeidgppcdkjdaaCrbn
import Derived.Test.YtpeidgppcdkjdaaCrby
import Derived.Test.YtpeidgppcdkjdaaCrbe
import Derived.Test.YtpeidgppcdkjdaaCalive
import Derived.Test.YtpeidgppcdkjdaaCeq
namespace Go.Proofs.Ytpeidgppcdkjdaa
open Go.RowKit

def BrkB (s : ByteArray) (nt : Bool) (r : Option ((Nat → Nat) × Nat)) : Prop :=
  (∀ W : World, MaxAt W → Calls Try.prog 54 #[.string s] W fun e w' => e = .returned (brkV nt r) ∧ Below W.heap.size W w') ∧
  ∀ W : World, Calls Try.prog 50 #[.string s] W fun e w' => e = .returned (brkV nt r) ∧ Below W.heap.size W w'
theorem brk_two (s : ByteArray) (hz : s.size ≤ 2147483648) : ∃ nt r, BrkB s nt r := by
  have hb : ∀ (nt : Bool), pre ⟨#[94]⟩ s = nt → ∀ r, BrkP s (if nt = true then 1 else 0) noS r → ∀ W : World, MaxAt W → Calls Try.prog 54 #[.string s] W fun e w' => e = .returned (brkV nt r) ∧ Below W.heap.size W w' :=
    fun nt hnt r hr W hM => bracket_is MaxAt (fun _ _ h hb => h.below hb) s nt hnt r (hr.toBrk hz) (by omega) W hM
  match hl : s.data.toList with
  | [] =>
    have h0 : s.size = 0 := size_of hl
    obtain ⟨r, hr⟩ := brkP_ex s s.size 0 noS (Nat.zero_le _) (by omega)
    exact ⟨false, r, hb false (by unfold pre; rw [hl]; rfl) r hr, rbr_nil s hz h0 r hr⟩
  | c :: q =>
    have hs : 1 ≤ s.size := by rw [size_of hl]; simp
    by_cases hc : c = 94
    · obtain ⟨r, hr⟩ := brkP_ex s s.size 1 noS hs (by omega)
      exact ⟨true, r, hb true (by unfold pre; rw [hl, hc]; rfl) r hr, rbr_yes s hz hl hc r hr⟩
    · obtain ⟨r, hr⟩ := brkP_ex s s.size 0 noS (Nat.zero_le _) (by omega)
      exact ⟨false, r, hb false (by unfold pre; rw [hl]; simp [List.isPrefixOf, Ne.symm hc]) r hr, rbr_no s hz hl hc r hr⟩
theorem brkV_is (nt : Bool) (r : Option ((Nat → Nat) × Nat)) : ∃ (S : Nat → Nat) (n k : Int), brkV nt r = .tuple #[setV S, .int .i64 n, .int .i64 k] := by
  cases r with
  | none => exact ⟨_, _, _, rfl⟩
  | some p => exact ⟨_, _, _, rfl⟩

end Go.Proofs.Ytpeidgppcdkjdaa

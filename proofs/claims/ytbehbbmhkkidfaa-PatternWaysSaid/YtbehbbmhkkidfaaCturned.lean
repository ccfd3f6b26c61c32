/-
  ClassTurned: one or the other. Condition: a set of four words of 64 bits, a byte.
-/
import Derived.Test.YtbehbbmhkkidfaaCalive
import Derived.Test.YtbehbbmhkkidfaaCeq
import Derived.Lib.QuietBelow
import Derived.BigQuiet
namespace Go.Proofs.Ytbehbbmhkkidfaa
open Go.RowKit Go.Sort

theorem xor_twice (m : Nat) (A : Nat → Nat) : (fun k => m ^^^ (fun j => m ^^^ A j) k) = A := by
  funext k
  show m ^^^ (m ^^^ A k) = A k
  rw [← Nat.xor_assoc, Nat.xor_self, Nat.zero_xor]
theorem not_not (A : Nat → Nat) : notS (notS A) = A := xor_twice 18446744073709551615 A
theorem both_not (A : Nat → Nat) (hA : OkS A) : setV (bothS A (notS A)) = setV (withS noS 0 255) := by
  refine setV_eq (hA.both hA.not) (OkS.no.withS _ _) fun c hc => ?_
  rw [has_both, has_not, has_with, has_no, Bool.false_or]
  cases has A c <;> simp <;> omega
/-- A contract, met in a region that draws its order. -/
def RG (wr : World) (f : FuncId) (args : Array Value) (v : Value) : Prop := ∀ d os, Calls Try.prog f args (grow (redrawn wr d) os) fun e w'' => e = .returned v ∧ ∃ p : Regrown, w'' = grow (redrawn wr p.d) p.os
theorem RG.of {f : FuncId} {args : Array Value} {v : Value} (h : ∀ W : World, Calls Try.prog f args W fun e w' => e = .returned v ∧ Below W.heap.size W w') (wr : World) : RG wr f args v := fun _ _ => Calls.regrown_of (h _)

end Go.Proofs.Ytbehbbmhkkidfaa

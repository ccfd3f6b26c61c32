/-
 Short names of facts that are used often. No condition.
-/
import Derived.Lib.Hide
namespace Go.Proofs.YtflkfleihlceeaaGreatDoor
theorem lh {p : Prop} (h : p) : Go.RowKit.Hid p := h
theorem aI {a b : Prop} (h : a) (k : b) : a /\ b := And.intro h k
theorem dqf {p : Prop} [Decidable p] (h : Not p) : decide p = false := decide_eq_false h
theorem dqt {p : Prop} [Decidable p] (h : p) : decide p = true := decide_eq_true h
theorem nlr (n : Nat) : n <= n := Nat.le_refl n
end Go.Proofs.YtflkfleihlceeaaGreatDoor

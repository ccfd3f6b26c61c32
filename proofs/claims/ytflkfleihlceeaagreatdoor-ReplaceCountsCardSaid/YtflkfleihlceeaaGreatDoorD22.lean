import Derived.Test.YtflkfleihlceeaaGreatDoorProg
import Derived.Test.YtflkfleihlceeaaGreatDoorD02
import Derived.WalkKit
import Derived.ChangeKeysEq
/-
 Whether two sets are the same, as the program tells it. No condition.
-/
namespace Go.Proofs.YtflkfleihlceeaaGreatDoor
def sameS (A B : Nat -> Nat) : Bool := A 0 == B 0 && (A 1 == B 1 && (A 2 == B 2 && A 3 == B 3))
theorem eq_words (A B : Nat -> Nat) (w : World) :
  (Op.equalIn 10000 25 (.agg #[.int .u64 (A 0), .int .u64 (A 1), .int .u64 (A 2), .int .u64 (A 3)]) (.agg #[.int .u64 (B 0), .int .u64 (B 1), .int .u64 (B 2), .int .u64 (B 3)])).run Tryz.prog w = .ok (sameS A B) w := by
 obtain ⟨i, hi⟩ := Option.isSome_iff_exists.1 (show (Tryz.prog.info? 23).isSome = true by kernel_rfl);rw [show (10000 : Nat) = 9999 + 1 from rfl, run_equalIn_array w 9999 _ _ (n := 4) (e := 23) (i := i) (by kernel_rfl) hi]
 have hb : ∀ a b : Nat, ((a : Int) == (b : Int)) = (a == b) := fun a b => by
  rw [Bool.eq_iff_iff]; simp only [beq_iff_eq]; omega
 have hc : Tryz.prog.cellsOf 23 = 1 := (by kernel_rfl);rw [hc, show List.range 4 = [0, 1, 2, 3] from rfl];unfold sameS
 cases h0 : A 0 == B 0 <;> cases h1 : A 1 == B 1 <;> cases h2 : A 2 == B 2 <;> cases h3 : A 3 == B 3 <;>
  simp [Op.eqItems, go_sem, hb, h0, h1, h2, h3]
end Go.Proofs.YtflkfleihlceeaaGreatDoor

import Derived.Test.YtncbmdbfdjhkeaaProg
import Derived.Test.YtncbmdbfdjhkeaaK02
import Derived.WalkKit
import Derived.ChangeKeysEq
/-
  Whether two sets are the same, as the program tells it. No condition.
-/
namespace Go.Proofs.Ytncbmdbfdjhkeaa
def sameS (A B : Nat → Nat) : Bool := A 0 == B 0 && (A 1 == B 1 && (A 2 == B 2 && A 3 == B 3))
theorem eq_words (A B : Nat → Nat) (w : World) :
    (Op.equalIn 10000 34 (.agg #[.int .u64 (A 0), .int .u64 (A 1), .int .u64 (A 2), .int .u64 (A 3)]) (.agg #[.int .u64 (B 0), .int .u64 (B 1), .int .u64 (B 2), .int .u64 (B 3)])).run Try.prog w = .ok (sameS A B) w := by
  obtain ⟨i, hi⟩ := Option.isSome_iff_exists.1 (show (Try.prog.info? 32).isSome = true by kernel_rfl)
  rw [show (10000 : Nat) = 9999 + 1 from rfl, run_equalIn_array w 9999 _ _ (n := 4) (e := 32) (i := i) (by kernel_rfl) hi]
  have hb : ∀ a b : Nat, ((a : Int) == (b : Int)) = (a == b) := fun a b => by
    rw [Bool.eq_iff_iff]; simp only [beq_iff_eq]; omega
  have hc : Try.prog.cellsOf 32 = 1 := by kernel_rfl
  rw [hc, show List.range 4 = [0, 1, 2, 3] from rfl]
  unfold sameS
  cases h0 : A 0 == B 0 <;> cases h1 : A 1 == B 1 <;> cases h2 : A 2 == B 2 <;> cases h3 : A 3 == B 3 <;>
    simp [Op.eqItems, go_sem, hb, h0, h1, h2, h3]
end Go.Proofs.Ytncbmdbfdjhkeaa

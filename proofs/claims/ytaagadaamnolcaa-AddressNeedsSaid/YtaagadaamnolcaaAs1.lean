/-
  Package address: whether an address holds, a range ends, a line is selected, what is needed. No condition.
-/
import Derived.Test.YtaagadaamnolcaaPraw
import Derived.WalkKit
import Derived.ProofKit
import Derived.Deep.QuietTactic
import Derived.BigQuiet
import Derived.Lib.Hide
import Derived.WalkSpells
namespace Go.Proofs.Ytaagadaamnolcaa
open Go.RowKit Go.Deep

theorem bW (w : World) (o : Obj) : Below w.heap.size w (w.alloc o) := (Below.refl _ w).alloc (Nat.le_refl _) o
/-- Whether a first address holds. -/
def holdsF (k l n : Int) (la fi : Bool) : Bool := cond (k == 0) true (cond (k == 1) (n == l) (cond (k == 2) la (cond (k == 3) fi (cond (k == 4) fi false))))
/-- Whether a range ends. -/
def endsF (k l n : Int) (la se op : Bool) : Bool := cond (k == 1) (decide (l ≤ n)) (cond (k == 2) la (cond (k == 3) (cond op se false) (cond (k == 4) (cond op se false) false)))
def asksF (k : Int) : Bool := cond (k == 3) true (k == 4)
/-- Whether a line is in the range, and whether it is open behind it. -/
def inF (f fl t tl n : Int) (la fi se op : Bool) : Bool × Bool := cond (t == 0) (holdsF f fl n la fi, false) (cond (cond op false (!holdsF f fl n la fi)) (false, false) (true, !endsF t tl n la se op))
def selF (f fl t tl n : Int) (nt la fi se op : Bool) : Bool × Bool := ((inF f fl t tl n la fi se op).1 != nt, (inF f fl t tl n la fi se op).2)
def needF (f t : Int) (op : Bool) : Bool × Bool := (cond (asksF f) (!cond op (t != 0) false) false, cond (asksF t) op false)
/-- The kinds, told one by one. -/
theorem kinds (k : Int) : ((k == 0) = true ∧ (k == 1) = false ∧ (k == 2) = false ∧ (k == 3) = false ∧ (k == 4) = false) ∨ ((k == 0) = false ∧ (k == 1) = true ∧ (k == 2) = false ∧ (k == 3) = false ∧ (k == 4) = false) ∨ ((k == 0) = false ∧ (k == 1) = false ∧ (k == 2) = true ∧ (k == 3) = false ∧ (k == 4) = false) ∨ ((k == 0) = false ∧ (k == 1) = false ∧ (k == 2) = false ∧ (k == 3) = true ∧ (k == 4) = false) ∨ ((k == 0) = false ∧ (k == 1) = false ∧ (k == 2) = false ∧ (k == 3) = false ∧ (k == 4) = true) ∨ ((k == 0) = false ∧ (k == 1) = false ∧ (k == 2) = false ∧ (k == 3) = false ∧ (k == 4) = false) := by
  simp only [beq_iff_eq, beq_eq_false_iff_ne]
  omega

set_option maxRecDepth 100000 in
set_option maxHeartbeats 4000000 in
theorem holds_is (k l n : Int) (la fi se : Bool) (w : World) : Calls Try.prog 15 #[(.agg #[.int .i64 k, .int .i64 l, .int .i64 0, .int .u64 0, .int .u64 0, .int .u64 0, .int .u64 0, .int .i64 0, .int .i64 0, .int .i64 0, .slice none 0 0]), (.agg #[.int .i64 n, .bool la, .bool fi, .bool se])] w fun e w' => e = .returned (.bool (holdsF k l n la fi)) ∧ Below w.heap.size w w' := by
  have HB := Lib.hid ((bW w (.cells #[.int .i64 k, .int .i64 l, .int .i64 0, .int .u64 0, .int .u64 0, .int .u64 0, .int .u64 0, .int .i64 0, .int .i64 0, .int .i64 0, .slice none 0 0] 36)).trans ((bW _ (.cells #[.int .i64 n, .bool la, .bool fi, .bool se] 26)).mono (by rw [World.size_alloc]; omega)))
  unfold holdsF
  rcases kinds k with ⟨h0, h1, h2, h3, h4⟩ | ⟨h0, h1, h2, h3, h4⟩ | ⟨h0, h1, h2, h3, h4⟩ | ⟨h0, h1, h2, h3, h4⟩ | ⟨h0, h1, h2, h3, h4⟩ | ⟨h0, h1, h2, h3, h4⟩
  all_goals
    rw [h0, h1, h2, h3, h4]
    go_enter Try.func15, Try.ntmps15
    go_wp2_with fail
    go_ret
    exact ⟨rfl, HB.out⟩
set_option maxRecDepth 100000 in
set_option maxHeartbeats 4000000 in
theorem ends_is (k l n : Int) (la fi se op : Bool) (w : World) : Calls Try.prog 16 #[(.agg #[.int .i64 k, .int .i64 l, .int .i64 0, .int .u64 0, .int .u64 0, .int .u64 0, .int .u64 0, .int .i64 0, .int .i64 0, .int .i64 0, .slice none 0 0]), .bool op, (.agg #[.int .i64 n, .bool la, .bool fi, .bool se])] w fun e w' => e = .returned (.bool (endsF k l n la se op)) ∧ Below w.heap.size w w' := by
  have HB := Lib.hid ((bW w (.cells #[.int .i64 k, .int .i64 l, .int .i64 0, .int .u64 0, .int .u64 0, .int .u64 0, .int .u64 0, .int .i64 0, .int .i64 0, .int .i64 0, .slice none 0 0] 36)).trans ((bW _ (.cells #[.int .i64 n, .bool la, .bool fi, .bool se] 26)).mono (by rw [World.size_alloc]; omega)))
  unfold endsF
  rcases kinds k with ⟨h0, h1, h2, h3, h4⟩ | ⟨h0, h1, h2, h3, h4⟩ | ⟨h0, h1, h2, h3, h4⟩ | ⟨h0, h1, h2, h3, h4⟩ | ⟨h0, h1, h2, h3, h4⟩ | ⟨h0, h1, h2, h3, h4⟩
  all_goals
    rw [h1, h2, h3, h4]
    cases op
    all_goals
      go_enter Try.func16, Try.ntmps16
      go_wp2_with fail
      go_ret
      exact ⟨rfl, HB.out⟩
set_option maxRecDepth 100000 in
set_option maxHeartbeats 4000000 in
theorem asks_is (k l : Int) (w : World) : Calls Try.prog 13 #[(.agg #[.int .i64 k, .int .i64 l, .int .i64 0, .int .u64 0, .int .u64 0, .int .u64 0, .int .u64 0, .int .i64 0, .int .i64 0, .int .i64 0, .slice none 0 0])] w fun e w' => e = .returned (.bool (asksF k)) ∧ Below w.heap.size w w' := by
  have HB := Lib.hid (bW w (.cells #[.int .i64 k, .int .i64 l, .int .i64 0, .int .u64 0, .int .u64 0, .int .u64 0, .int .u64 0, .int .i64 0, .int .i64 0, .int .i64 0, .slice none 0 0] 36))
  unfold asksF
  rcases kinds k with ⟨h0, h1, h2, h3, h4⟩ | ⟨h0, h1, h2, h3, h4⟩ | ⟨h0, h1, h2, h3, h4⟩ | ⟨h0, h1, h2, h3, h4⟩ | ⟨h0, h1, h2, h3, h4⟩ | ⟨h0, h1, h2, h3, h4⟩
  all_goals
    rw [h3, h4]
    go_enter Try.func13, Try.ntmps13
    go_wp2_with fail
    go_ret
    exact ⟨rfl, HB.out⟩
set_option maxRecDepth 100000 in
set_option maxHeartbeats 4000000 in
theorem hasRange_is (f fl t tl : Int) (nt : Bool) (w : World) : Calls Try.prog 12 #[(.agg (List.toArray (.complex .f64 0 0 :: .int .u8 112 :: .int .i64 f :: .int .i64 fl :: .int .i64 0 :: .int .u64 0 :: .int .u64 0 :: .int .u64 0 :: .int .u64 0 :: .int .i64 0 :: .int .i64 0 :: .int .i64 0 :: .slice none 0 0 :: .int .i64 t :: .int .i64 tl :: .int .i64 0 :: .int .u64 0 :: .int .u64 0 :: .int .u64 0 :: .int .u64 0 :: .int .i64 0 :: .int .i64 0 :: .int .i64 0 :: .slice none 0 0 :: .bool nt :: .string ⟨#[]⟩ :: .string ⟨#[]⟩ :: .int .i64 0 :: .int .u64 0 :: .int .u64 0 :: .int .u64 0 :: .int .u64 0 :: .int .i64 0 :: .int .i64 0 :: .int .i64 0 :: .slice none 0 0 :: .bool false :: .slice none 0 0 :: .bool false :: .bool false :: .int .i64 0 :: .string ⟨#[]⟩ :: [])))] w fun e w' => e = .returned (.bool (t != 0)) ∧ Below w.heap.size w w' := by
  have HB := Lib.hid (bW w (.cells (List.toArray (.complex .f64 0 0 :: .int .u8 112 :: .int .i64 f :: .int .i64 fl :: .int .i64 0 :: .int .u64 0 :: .int .u64 0 :: .int .u64 0 :: .int .u64 0 :: .int .i64 0 :: .int .i64 0 :: .int .i64 0 :: .slice none 0 0 :: .int .i64 t :: .int .i64 tl :: .int .i64 0 :: .int .u64 0 :: .int .u64 0 :: .int .u64 0 :: .int .u64 0 :: .int .i64 0 :: .int .i64 0 :: .int .i64 0 :: .slice none 0 0 :: .bool nt :: .string ⟨#[]⟩ :: .string ⟨#[]⟩ :: .int .i64 0 :: .int .u64 0 :: .int .u64 0 :: .int .u64 0 :: .int .u64 0 :: .int .i64 0 :: .int .i64 0 :: .int .i64 0 :: .slice none 0 0 :: .bool false :: .slice none 0 0 :: .bool false :: .bool false :: .int .i64 0 :: .string ⟨#[]⟩ :: [])) 39))
  go_enter Try.func12, Try.ntmps12
  go_wp2_with fail
  go_ret
  exact ⟨rfl, HB.out⟩
end Go.Proofs.Ytaagadaamnolcaa

/-
  Whether two matches are the same, as the program tells it; a match loaded from its box. No condition.
-/
import Derived.Test.YtcbgbicdfpkikaaGreatDoorK27
import Derived.ChangeKeysEq
import Derived.Laws.Rows
namespace Go.Proofs.YtcbgbicdfpkikaaGreatDoor
open Go.RowKit Go.Deep

theorem run_load_row {P : Program} {o : Oper} {a : Act} {w : World} (ty : TypeId) (x : Operand) (ho : o.op = .load ty x)
    (g : Nat) (hx : a.eval x = .pointer (some ⟨g, 0, none⟩)) (t : TypeId) (cs : Array Value) (fr : Nat × Nat) (d : TypeDesc) (hg : w.heap[g]? = some (.cells cs t fr))
    (hu : P.underlying ty = some d) (hd : (match d with | .struct _ | .array _ _ => true | _ => false) = true) (hi : (P.info? ty).map (·.size) = some cs.size) : (execOp a.eval o).run P w = .ok (.value (.agg cs)) w := by
  unfold execOp
  simp only [ho, hx, Instr.loadAt, Instr.sureAddr, Sem.run_bind, Sem.run_pure, Result.andThen_ok, run_loadVar_row w g t ty cs fr d hg hu hd hi]
set_option maxRecDepth 100000 in
theorem part_span (x : Sp) (i : Nat) (hi : i < 10) (w : World) : (part 32 (spC x) (i * 2)).run Tryz.prog w = .ok (.agg #[.int .i64 (x i).1, .int .i64 (x i).2]) w := by
  have h : (spC x).extract (i * 2) (i * 2 + 2) = #[.int .i64 (x i).1, .int .i64 (x i).2] := by
    rcases (show i = 0 ∨ i = 1 ∨ i = 2 ∨ i = 3 ∨ i = 4 ∨ i = 5 ∨ i = 6 ∨ i = 7 ∨ i = 8 ∨ i = 9 by omega) with rfl | rfl | rfl | rfl | rfl | rfl | rfl | rfl | rfl | rfl <;> rfl
  simp [part, go_sem, h]
theorem int_eq (d : Nat) (a b : Int) (w : World) : (Op.equalIn (d + 1) 3 (.int .i64 a) (.int .i64 b)).run Tryz.prog w = .ok (a == b) w := by
  simp [Op.equalIn, run_underlying Tryz.underlying3]
set_option maxRecDepth 100000 in
set_option maxHeartbeats 400000 in
theorem span_eq (d : Nat) (a b c e : Int) (w : World) : (Op.equalIn (d + 2) 32 (.agg #[.int .i64 a, .int .i64 b]) (.agg #[.int .i64 c, .int .i64 e])).run Tryz.prog w = .ok (a == c && b == e) w := by
  have p0 : ∀ (x y : Int), (part 3 #[.int .i64 x, .int .i64 y] 0).run Tryz.prog w = .ok (.int .i64 x) w := fun x y => by simp [part, go_sem]
  have p1 : ∀ (x y : Int), (part 3 #[.int .i64 x, .int .i64 y] 1).run Tryz.prog w = .ok (.int .i64 y) w := fun x y => by simp [part, go_sem]
  rw [show d + 2 = (d + 1) + 1 from rfl]
  unfold Op.equalIn
  simp only [Sem.run_bind, run_underlying Tryz.underlying32, Result.andThen_ok]
  have hst : Tryz.prog.stoodInHeld 32 = false := by kernel_rfl
  have q := fun x y => int_eq d x y w
  cases h1 : a == c <;> cases h2 : b == e <;> simp [hst, p0, p1, q, h1, h2]
/-- Two matches that are the same. -/
def sameM (x y : Sp) : Bool := (List.range 10).all fun i => (x i).1 == (y i).1 && (x i).2 == (y i).2
set_option maxRecDepth 100000 in
theorem items_eq (x y : Sp) (w : World) (d : Nat) : ∀ is : List Nat, (∀ i ∈ is, i < 10) → (Op.eqItems (d + 2) 32 2 (spC x) (spC y) is).run Tryz.prog w = .ok (is.all fun i => (x i).1 == (y i).1 && (x i).2 == (y i).2) w
  | [], _ => by simp [Op.eqItems]
  | i :: is, h => by
    have h0 := h i (List.mem_cons_self ..)
    have ih := items_eq x y w d is fun j hj => h j (List.mem_cons_of_mem _ hj)
    simp only [Op.eqItems, Sem.run_bind, part_span x i h0, part_span y i h0, Result.andThen_ok, span_eq, List.all_cons]
    cases hq : ((x i).1 == (y i).1 && (x i).2 == (y i).2)
    · simp
    · simpa using ih
set_option maxRecDepth 100000 in
theorem match_eq (x y : Sp) (w : World) : (Op.equalIn 10000 34 (.agg (spC x)) (.agg (spC y))).run Tryz.prog w = .ok (sameM x y) w := by
  obtain ⟨i, hi⟩ := Option.isSome_iff_exists.1 (show (Tryz.prog.info? 32).isSome = true by kernel_rfl)
  rw [show (10000 : Nat) = 9999 + 1 from rfl, run_equalIn_array w 9999 _ _ (n := 10) (e := 32) (i := i) (by kernel_rfl) hi]
  have hc : Tryz.prog.cellsOf 32 = 2 := by kernel_rfl
  rw [hc]
  exact items_eq x y w 9997 (List.range 10) fun i hi => List.mem_range.1 hi
theorem sameM_self (x : Sp) : sameM x x = true := by
  unfold sameM
  simp
theorem mat_zero (w : World) : (Op.equalIn 10000 34 (.agg (spC (spI 0))) (.agg #[.int .i64 0, .int .i64 0, .int .i64 0, .int .i64 0, .int .i64 0, .int .i64 0, .int .i64 0, .int .i64 0, .int .i64 0, .int .i64 0, .int .i64 0, .int .i64 0, .int .i64 0, .int .i64 0, .int .i64 0, .int .i64 0, .int .i64 0, .int .i64 0, .int .i64 0, .int .i64 0])).run Tryz.prog w = .ok true w := by
  have h := match_eq (spI 0) (spI 0) w
  rw [sameM_self] at h
  exact h
end Go.Proofs.YtcbgbicdfpkikaaGreatDoor

/-
  The walks of the live question and of DiskNil: each returns true, and what was in memory stays as it was. Condition: the argument is an operation.
-/
import Derived.Test.YtficckhhlhcogaaOps
namespace Go.Proofs.Ytficckhhlhcogaa
open Go.RowKit Go.Maps

def TrueIs (w : World) (e : Ending) (w' : World) : Prop := e = .returned (.bool true) ∧ Below w.heap.size w w'

theorem none32 : Blocks32 (fun _ => none) := fun _ _ h => by cases h

set_option maxHeartbeats 400000 in
/-- THE LIVE QUESTION. -/
theorem alive_any (w : World) : Calls Try.prog 7 #[] w (TrueIs w) := by
  have hn : Hid (∀ w, Calls Try.prog 8 #[.int .i64 2] w (NewDisk w 2)) := fun w => new_in 2 w (by omega) (by omega)
  go_enter Try.func7, Try.ntmps7
  go_wp2_with fail
  go_at_call 8
  (with_reducible refine (hn.out _).mono ?_)
  rintro e w1 ⟨p, bf, bs, v, rfl, hd, hfo, hb⟩
  have hr := Lib.hid (read_in p bf bs v 2 0 _ _ [] 1 w1 hd (by omega) (by omega) (by omega) (fun l h => by cases h) (fun l h => by cases h))
  have c0 := Lib.hid hd.cell0
  have hB := Lib.hid hb
  clear hd hfo hb
  go_wp2_with fail
  go_at_call 18
  (with_reducible refine hr.out.mono ?_)
  rintro e w2 ⟨g, rfl, hg, hlt, hb2⟩
  have c02 : Hid (w2.cell? ⟨p, 0, none⟩ = some (.int .i64 ((2 : Nat) : Int))) := (hb2.cell (p := ⟨p, 0, none⟩) (World.block_lt_of_cell? w1 _ c0.out)).trans c0.out
  have hr2 : Hid (Calls Try.prog 18 #[.pointer (some ⟨p, 0, none⟩), .int .i64 2] w2 fun e w' => e = .returned (.tuple #[.slice none 0 0, .int .i64 21]) ∧ w2 = w') := read_out p 2 2 w2 c02.out (.inr (by omega))
  have hbl : Hid (Calls Try.prog 19 #[.pointer (some ⟨p, 0, none⟩)] w2 fun e w' => e = .returned (.int .i64 2) ∧ w2 = w') := blocks_is p 2 w2 c02.out
  have HG := Lib.hid hg
  clear hg
  go_wp2_with (first
    | (go_at_call 18; refine hr2.out.mono ?_; rintro e w' ⟨rfl, rfl⟩)
    | (go_at_call 19; refine hbl.out.mono ?_; rintro e w' ⟨rfl, rfl⟩))
  go_ret
  exact ⟨rfl, hB.out.trans (hb2.mono hB.out.size)⟩

/-- A block that was just made stays while only new ones turn. -/
theorem kept_new {w w2 : World} {cs : Array Value} {t : TypeId} (hb : Below (w.alloc (.cells cs t)).heap.size (w.alloc (.cells cs t)) w2) : w2.heap[w.heap.size]? = some (.cells cs t (0, 0)) :=
  (hb.block _ (by simp)).trans (heap_alloc_new w _)
theorem cell_new {w w2 : World} {cs : Array Value} {t : TypeId} (hb : Below (w.alloc (.cells cs t)).heap.size (w.alloc (.cells cs t)) w2) (i : Nat) : w2.cell? ⟨w.heap.size, i, none⟩ = cs[i]? := cell_of_row _ _ i _ _ _ (kept_new hb)

set_option maxHeartbeats 400000 in
theorem nil_any (o : OpM) (w : World) : Calls Try.prog 5 #[.agg o.cells.toArray] w (TrueIs w) := by
  obtain ⟨kind, n, torn, A, b, bcap, K, keep, kcap⟩ := o
  unfold OpM.cells
  go_enter Try.func5, Try.ntmps5
  go_wp2_with (first
    | (go_at_call 18; refine (read_nil _ _).mono ?_; rintro e w' ⟨rfl, rfl⟩)
    | (go_at_call 7; refine (alive_any _).mono ?_; rintro e w2 ⟨rfl, hb2⟩; have z1 := cell_new hb2 1; have z2 := cell_new hb2 2; have z3 := cell_new hb2 3; have z4 := cell_new hb2 4)
    | (go_at_call 10; refine (write_nil _ _ _).mono ?_; rintro e w' ⟨rfl, rfl⟩)
    | (go_at_call 12; refine (sync_nil _).mono ?_; rintro e w' ⟨rfl, rfl⟩)
    | (go_at_call 19; refine (blocks_nil _).mono ?_; rintro e w' ⟨rfl, rfl⟩)
    | (go_at_call 17; refine (calls_nil _).mono ?_; rintro e w' ⟨rfl, rfl⟩)
    | (go_at_call 14; refine (cut_nil _ _ _ _).mono ?_; rintro e w' ⟨rfl, rfl⟩))
  go_ret
  exact ⟨rfl, ((Below.refl _ _).alloc (Nat.le_refl _) _).trans (hb2.mono (by simp))⟩
end Go.Proofs.Ytficckhhlhcogaa

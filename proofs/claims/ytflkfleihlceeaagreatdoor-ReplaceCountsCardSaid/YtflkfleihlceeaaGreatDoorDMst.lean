/-
 A law's boxes and trees as they lie, in any later world. No condition.
-/
import Derived.ChangeKeysEq
import Derived.Laws.Rows
import Derived.Test.YtflkfleihlceeaaGreatDoorD28
namespace Go.Proofs.YtflkfleihlceeaaGreatDoor
open Go.RowKit Go.Deep

structure St (w W : World) (bs : List (Nat × Array Value × TypeId)) (ts : List (PN × NV)) : Prop where
 bel : Below w.heap.size w W
 obs : ∀ (n : Nat) (x : Nat × Array Value × TypeId), bs[n]? = some x -> W.heap[x.1]? = some (.cells x.2.1 x.2.2 (0, 0))
 trs : ∀ (n : Nat) (x : PN × NV), ts[n]? = some x -> IsP (fun _ => False) W x.1 x.2
theorem St.start (w : World) : St w w [] [] := ⟨Below.refl _ _, fun n x h => by simp at h, fun n x h => by simp at h⟩
theorem St.next {w W W' : World} {bs : List (Nat × Array Value × TypeId)} {ts : List (PN × NV)} (h : St w W bs ts) (hb : Below W.heap.size W W') : St w W' bs ts :=
 ⟨h.bel.trans (hb.mono h.bel.size), fun n x hx => bobj hb (h.obs n x hx) (lts (h.obs n x hx)), fun n x hx => (h.trs n x hx).stays hb⟩
theorem St.box {w W : World} {bs : List (Nat × Array Value × TypeId)} {ts : List (PN × NV)} (h : St w W bs ts) (cs : Array Value) (T : TypeId) : St w (W.alloc (.cells cs T)) ((W.heap.size, cs, T) :: bs) ts := by
 have h2 := h.next (bW W (.cells cs T));refine ⟨h2.bel, fun n x hx => ?_, h2.trs⟩;cases n with
 | zero =>
  simp at hx;subst hx;exact heap_alloc_new W _
 | succ n => exact h2.obs n x (by simpa using hx)
theorem St.tree {w W : World} {bs : List (Nat × Array Value × TypeId)} {ts : List (PN × NV)} (h : St w W bs ts) {S : Nat -> Prop} {t : PN} {y : NV} (ht : IsP S W t y) : St w W bs ((t, y) :: ts) := by
 refine ⟨h.bel, h.obs, fun n x hx => ?_⟩;cases n with
 | zero =>
  simp at hx;subst hx;exact ht.weaken fun k h => h.elim
 | succ n => exact h.trs n x (by simpa using hx)
theorem St.put {w W : World} {bs : List (Nat × Array Value × TypeId)} {ts : List (PN × NV)} (h : St w W bs ts) {b : Nat} {cs : Array Value} {T : TypeId} (ho : W.heap[b]? = some (.cells cs T (0, 0))) : St w W ((b, cs, T) :: bs) ts := by
 refine ⟨h.bel, fun n x hx => ?_, h.trs⟩;cases n with
 | zero =>
  simp at hx;subst hx;exact ho
 | succ n => exact h.obs n x (by simpa using hx)
theorem St.ob {w W : World} {bs : List (Nat × Array Value × TypeId)} {ts : List (PN × NV)} (h : St w W bs ts) (n : Nat) {b : Nat} {cs : Array Value} {T : TypeId} (hx : bs[n]? = some (b, cs, T)) : W.heap[b]? = some (.cells cs T (0, 0)) := h.obs n _ hx
theorem St.tr {w W : World} {bs : List (Nat × Array Value × TypeId)} {ts : List (PN × NV)} (h : St w W bs ts) (n : Nat) {t : PN} {y : NV} (hx : ts[n]? = some (t, y)) : IsP (fun _ => False) W t y := h.trs n _ hx
theorem node_box {W : World} {b : Nat} {y : NV} {T : TypeId} (ho : W.heap[b]? = some (.cells #[.int .i64 y.kind, .int .u64 (y.set 0), .int .u64 (y.set 1), .int .u64 (y.set 2), .int .u64 (y.set 3), .int .i64 y.lo, .int .i64 y.hi, .int .i64 y.num, .slice y.A y.n y.c] T (0, 0))) : W.cell? ⟨b, 0, none⟩ = some (.int .i64 y.kind) /\ W.cell? ⟨b, 1, none⟩ = some (.int .u64 (y.set 0)) /\ W.cell? ⟨b, 2, none⟩ = some (.int .u64 (y.set 1)) /\ W.cell? ⟨b, 3, none⟩ = some (.int .u64 (y.set 2)) /\ W.cell? ⟨b, 4, none⟩ = some (.int .u64 (y.set 3)) /\ W.cell? ⟨b, 5, none⟩ = some (.int .i64 y.lo) /\ W.cell? ⟨b, 6, none⟩ = some (.int .i64 y.hi) /\ W.cell? ⟨b, 7, none⟩ = some (.int .i64 y.num) /\ W.cell? ⟨b, 8, none⟩ = some (.slice y.A y.n y.c) := by
 refine ⟨?_, ?_, ?_, ?_, ?_, ?_, ?_, ?_, ?_⟩ <;> (rw [obc ho]; rfl)
theorem mat_box {W : World} {b : Nat} {sp : Sp} {T : TypeId} {i j : Int} (ho : W.heap[b]? = some (.cells (spC sp) T (0, 0))) (h : sp 0 = (i, j)) : W.cell? ⟨b, 0, none⟩ = some (.int .i64 i) /\ W.cell? ⟨b, 1, none⟩ = some (.int .i64 j) := by
 refine ⟨?_, ?_⟩ <;> rw [obc ho]
 ·show some (Value.int .i64 (sp 0).1) = _;rw [h]
 ·show some (Value.int .i64 (sp 0).2) = _;rw [h]
def ParsV (R : Option PN) (w : World) (e : Ending) (w' : World) : Prop := ∃ (y : NV) (c : Int), e = .returned (.tuple #[y.v, .int .i64 c]) /\ Below w.heap.size w w' /\ (∀ t, R = some t -> c = 0 /\ IsP (fun _ => False) w' t y) /\ (R = none -> c = 91)
theorem parse_v (s : ByteArray) (ext : Bool) (w : World) (hM : MaxAt w) : Calls Tryz.prog 18 #[.string s, .bool ext] w (ParsV (parseP bkOf ext s.data.toList) w) := by
 have h := parse_of s ext w hM;generalize parseP bkOf ext s.data.toList = R at h ⊢;refine h.mono ?_;intro e w' h;cases R with
 | none =>
  obtain ⟨he, hb⟩ := h;exact ⟨⟨0, noS, 0, 0, 0, none, 0, 0⟩, 91, he, hb, (fun t ht => by cases ht), fun _ => rfl⟩
 | some t =>
  obtain ⟨y, he, hy, hb⟩ := h;exact ⟨y, 0, he, hb, (fun u hu => by cases hu; exact ⟨rfl, hy.weaken fun k h => h.elim⟩), fun h => by cases h⟩
theorem parse_some {s : ByteArray} {ext : Bool} {t : PN} (h : parseP bkOf ext s.data.toList = some t) (w : World) (hM : MaxAt w) : Calls Tryz.prog 18 #[.string s, .bool ext] w fun e w' => ∃ y : NV, e = .returned (.tuple #[y.v, .int .i64 0]) /\ IsP (fun _ => False) w' t y /\ Below w.heap.size w w' := by
 have h2 := parse_of s ext w hM;rw [h] at h2;exact h2.mono fun e w' ⟨y, he, hy, hb⟩ => ⟨y, he, hy.weaken fun k h => h.elim, hb⟩
theorem run_load_row {P : Program} {o : Oper} {a : Act} {w : World} (ty : TypeId) (x : Operand) (ho : o.op = .load ty x)
  (g : Nat) (hx : a.eval x = .pointer (some ⟨g, 0, none⟩)) (t : TypeId) (cs : Array Value) (fr : Nat × Nat) (d : TypeDesc) (hg : w.heap[g]? = some (.cells cs t fr))
  (hu : P.underlying ty = some d) (hd : (match d with | .struct _ | .array _ _ => true | _ => false) = true) (hi : (P.info? ty).map (·.size) = some cs.size) : (execOp a.eval o).run P w = .ok (.value (.agg cs)) w := by
 unfold execOp;simp only [ho, hx, Instr.loadAt, Instr.sureAddr, Sem.run_bind, Sem.run_pure, Result.andThen_ok, run_loadVar_row w g t ty cs fr d hg hu hd hi]
end Go.Proofs.YtflkfleihlceeaaGreatDoor

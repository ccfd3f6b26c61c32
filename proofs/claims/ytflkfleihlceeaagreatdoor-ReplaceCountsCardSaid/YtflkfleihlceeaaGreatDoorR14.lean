/-
 Replacing, between two rounds: the result in its box, the boxes of the call. No condition.
-/
import Derived.Test.YtflkfleihlceeaaGreatDoorR13
import Derived.Laws.IdiomStrings
namespace Go.Proofs.YtflkfleihlceeaaGreatDoor
open Go.RowKit Go.Deep Go.Shelf

theorem ResAt.grownI {W W' : World} {B : Nat} {p : Nat -> TypeId -> Prop} {rb : Nat} {L : List UInt8} {row : Option Nat} (h : ResAt B p rb L W) (hg : W.grownBy W' row) (hr : ∀ k, row = some k -> ∃ o : Obj, W.heap[k]? = some o /\ (o.isCells = false \/ ∃ cs fr, o = .cells cs 3 fr)) : ResAt B p rb L W' := by
 obtain ⟨v, h1, h2, h3⟩ := h.ex
 have key : ∀ (k : Nat) (cs : Array Value) (t : TypeId) (fr : Nat × Nat), t ≠ 3 -> W.heap[k]? = some (Obj.cells cs t fr) -> W'.heap[k]? = some (Obj.cells cs t fr) := fun k cs t fr ht hk => by
  refine (hg.block k (lts hk) fun e => ?_).trans hk;obtain ⟨o, ho, hc⟩ := hr k e.symm;rw [hk] at ho;cases ho
  rcases hc with hc | ⟨cs2, fr2, hc⟩
  ·cases hc
  ·injection hc with _ hc;exact ht hc
 refine ⟨⟨v, key _ _ _ _ (by decide) h1, ?_, h3⟩, h.rb⟩;refine ⟨h2.1, ?_⟩;rcases h2.2 with h0 | ⟨g, cap, cur, e, hb, hg2, rest⟩
 ·exact .inl h0
 ·exact .inr ⟨g, cap, cur, e, hb, key _ _ _ _ (by decide) hg2, rest⟩
theorem res_three {fn : Func} {p q r : Tmp} (h : fn.results = #[.cell p 9, .cell q 3, .cell r 39]) (tmps : Array Value) (w : World) (gp gq gr : Nat) (s : ByteArray) (k e : Int)
  (hp : tmps.getD p undef = .pointer (some ⟨gp, 0, none⟩)) (hq : tmps.getD q undef = .pointer (some ⟨gq, 0, none⟩)) (hr : tmps.getD r undef = .pointer (some ⟨gr, 0, none⟩))
  (h1 : w.cell? ⟨gp, 0, none⟩ = some (.string s)) (h2 : w.cell? ⟨gq, 0, none⟩ = some (.int .i64 k)) (h3 : w.cell? ⟨gr, 0, none⟩ = some (.int .i64 e)) : (results fn tmps).run Tryz.prog w = .ok (.tuple #[.string s, .int .i64 k, .int .i64 e]) w := by
 have hp' : tmps[p]?.getD undef = .pointer (some ⟨gp, 0, none⟩) := (by simpa using hp);have hq' : tmps[q]?.getD undef = .pointer (some ⟨gq, 0, none⟩) := (by simpa using hq);have hr' : tmps[r]?.getD undef = .pointer (some ⟨gr, 0, none⟩) := (by simpa using hr);simp [results, h, hp', hq', hr', asAddr, go_sem, h1, h2, h3]
theorem ext_part (s : ByteArray) (i j : Nat) : (s.extract i j).data.toList = (s.data.toList.take j).drop i := by
 have h1 : s = txt s.data.toList := (txt_of s).symm;have h2 := txt_extract s.data.toList i j;rw [<- h1] at h2;rw [h2];rfl
structure PutAt (g : Nat) (T : TypeId) (v : Value) (V V1 : World) : Prop where
 was : ∃ v0, V.heap[g]? = some (.cells #[v0] T (0, 0))
 same : V1.heap[g]? = some (.cells #[v] T (0, 0))
 other : ∀ k, k ≠ g -> V1.heap[k]? = V.heap[k]?
 os : V1.os = V.os
 tape : V1.tape = V.tape
 output : V1.output = V.output
 size : V1.heap.size = V.heap.size
theorem put_at {V : World} {g : Nat} {T : TypeId} {v0 : Value} (v : Value) (h : V.heap[g]? = some (.cells #[v0] T (0, 0))) : PutAt g T v V (V.setCell ⟨g, 0, none⟩ v) :=
 ⟨⟨v0, h⟩, heap_setCell_same V g 0 _ _ v h, fun k hk => heap_setCell_other V ⟨g, 0, none⟩ k _ hk, rfl, rfl, rfl, by simp⟩
theorem PutAt.below {g : Nat} {T : TypeId} {v : Value} {V V1 : World} (h : PutAt g T v V V1) {B : Nat} (hg : B <= g) : Below B V V1 := ⟨h.os, h.tape, h.output, Nat.le_of_eq h.size.symm, fun k hk => h.other k (by omega)⟩
theorem PutAt.keep {g : Nat} {T : TypeId} {v : Value} {V V1 : World} (h : PutAt g T v V V1) {k : Nat} {cs : Array Value} {t : TypeId} {fr : Nat × Nat} (hk : V.heap[k]? = some (.cells cs t fr)) (hne : k ≠ g \/ t ≠ T) : V1.heap[k]? = some (.cells cs t fr) := by
 by_cases e : k = g
 ·subst e;obtain ⟨v0, h0⟩ := h.was;rw [h0] at hk;injection hk with hk;injection hk with _ hk;rcases hne with hne | hne
  ·exact absurd rfl hne
  ·exact absurd hk.symm hne
 ·exact (h.other k e).trans hk
theorem PutAt.kq {g n0 : Nat} {T : TypeId} {v : Value} {V V1 : World} {p : Nat -> TypeId -> Prop} (h : PutAt g T v V V1) (hg : n0 <= g) (hp : ¬ p g T) : Kq n0 p V V1 := ⟨h.below hg, fun k cs t fr hk hpk => h.keep hk (by
 by_cases e : k = g
 ·subst e;exact .inr fun e => hp (by rw [<- e]; exact hpk)
 ·exact .inl e)⟩
theorem PutAt.others {g : Nat} {T : TypeId} {v : Value} {V V1 : World} (h : PutAt g T v V V1) : KeepsOthers V V1 := ⟨Nat.le_of_eq h.size.symm, fun k o hk hc => (h.other k fun e => by
 subst e;obtain ⟨v0, h0⟩ := h.was;rw [h0] at hk;cases hk
 cases hc).trans hk⟩
theorem PutAt.res {g : Nat} {T : TypeId} {v : Value} {V V1 : World} (h : PutAt g T v V V1) {B rb : Nat} {p : Nat -> TypeId -> Prop} {L : List UInt8} (hr : ResAt B p rb L V) (h1 : T ≠ 5) (h2 : T ≠ 85) : ResAt B p rb L V1 := by
 obtain ⟨u, g1, g2, g3⟩ := hr.ex;refine ⟨⟨u, h.keep g1 (.inr (Ne.symm h2)), ⟨g2.1, ?_⟩, g3⟩, hr.rb⟩;rcases g2.2 with h0 | ⟨k, cap, cur, e, hb, hk, rest⟩
 ·exact .inl h0
 ·exact .inr ⟨k, cap, cur, e, hb, h.keep hk (.inr (Ne.symm h1)), rest⟩
theorem allocs_at : ∀ (l : List (Array Value × TypeId)) (w : World), (∀ (k : Nat) (x : Array Value × TypeId), l[k]? = some x -> (l.foldl (fun w x => w.alloc (.cells x.1 x.2)) w).heap[w.heap.size + k]? = some (.cells x.1 x.2 (0, 0))) /\ Below w.heap.size w (l.foldl (fun w x => w.alloc (.cells x.1 x.2)) w) /\ (l.foldl (fun w x => w.alloc (.cells x.1 x.2)) w).heap.size = w.heap.size + l.length
 | [], w => ⟨fun k x h => by simp at h, Below.refl _ _, rfl⟩
 | y :: l, w => by
  obtain ⟨h1, h2, h3⟩ := allocs_at l (w.alloc (.cells y.1 y.2));have hs : (w.alloc (.cells y.1 y.2)).heap.size = w.heap.size + 1 := (by simp);refine ⟨fun k x h => ?_, (bW w _).trans (h2.mono (by omega)), ?_⟩
  ·cases k with
   | zero =>
    simp only [List.getElem?_cons_zero, Option.some.injEq] at h;subst h;exact (h2.block w.heap.size (by omega)).trans (heap_alloc_new w _)
   | succ k =>
    have h4 := h1 k x (by simpa using h);rw [hs] at h4;rw [show w.heap.size + (k + 1) = w.heap.size + 1 + k by omega];exact h4
  ·rw [List.foldl_cons, h3, hs, List.length_cons];omega
theorem wpListIn_load_row_gr {P : Program} {n l : Nat} {ops : Array Oper} {rest : List Oper} {o : Oper} {a : Act} {w : World} {Q : Exit -> Act -> World -> Prop} (hw : Region.wanted o (yielded ops a.tmps) = true) (ty : TypeId) (x : Operand) (ho : o.op = .load ty x)
  (g : Nat) (hx : a.eval x = .pointer (some ⟨g, 0, none⟩)) (t : TypeId) (cs : Array Value) (fr : Nat × Nat) (d : TypeDesc) (hg : w.heap[g]? = some (.cells cs t fr))
  (hu : P.underlying ty = some d) (hd : (match d with | .struct _ | .array _ _ => true | _ => false) = true) (hi : (P.info? ty).map (·.size) = some cs.size)
  (h : wpListIn (Fence.wide.inRound l) n P ops Q rest (a.put o.dst (.agg cs)) w) : wpListIn (Fence.wide.inRound l) n P ops Q (o :: rest) a w := by
 refine wpListIn_step fun K hK => ?_;rw [hw];have hr := run_load_row (P := P) ty x ho g hx t cs fr d hg hu hd hi
 have hse : o.semAt (some l) a.eval = execOp a.eval o := by
  unfold Oper.semAt;rw [ho]
 refine ⟨fun _ _ => trivial, ?_⟩;show o.uponIn _ _ P a K Q ((o.semAt (some l) a.eval).run P w);rw [hse, hr];exact hK _ _ h
theorem conv_u8 {W : World} {A : Option Addr} {l : List UInt8} {c : Nat} (h : RawAt W A (u8V l)) : (convert 83 9 (.slice A l.length c)).run Tryz.prog W = .ok (.string (txt l)) W := by
 cases A with
 | none =>
  have hl : l = [] := by
   rcases h with h | ⟨g, o, e, _⟩
   ·exact List.map_eq_nil_iff.1 h
   ·cases e
  subst hl;rw [run_convert_bytes_string W 83 9 5 none _ c Tryz.underlying83 Tryz.underlying5 Tryz.underlying9];simp [Conv.bytesToString];rfl
 | some a =>
  refine run_convert_bytes_back W 83 9 5 a c l Tryz.underlying83 Tryz.underlying5 Tryz.underlying9 fun j hj => ?_;obtain ⟨g, o, e, hc⟩ := h.cell (i := j) (v := .int .u8 (l[j].toNat : Int)) (by simp [u8V, hj]);injection e with e;subst e;rw [Addr.add_mid];exact hc
end Go.Proofs.YtflkfleihlceeaaGreatDoor

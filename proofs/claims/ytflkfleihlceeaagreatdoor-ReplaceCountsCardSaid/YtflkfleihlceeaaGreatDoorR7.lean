/-
 Package replace's filled as a range takes it: the pieces' texts, one by one. Condition: the pieces lie in memory; what a round keeps is the row and the closure's boxes.
-/
import Derived.RangeFuncKeeps
import Derived.RangeFuncBound
import Derived.RangeFuncLeaves
import Derived.RangeFuncFrom
import Derived.RangeFuncCalls
import Derived.Shelf.Abstract
import Derived.OwnWalkIn
import Derived.TacticsInMore
import Derived.LoopIn
import Derived.Test.YtflkfleihlceeaaGreatDoorR6
import Derived.Test.YtflkfleihlceeaaGreatDoorDMst
namespace Go.Proofs.YtflkfleihlceeaaGreatDoor
open Go.RowKit Go.Deep Go.Shelf

attribute [local go_sem] Oper.semAt_some
def Kq (n0 : Nat) (p : Nat -> TypeId -> Prop) (W W' : World) : Prop := Below n0 W W' /\ ∀ k cs t fr, W.heap[k]? = some (.cells cs t fr) -> p k t -> W'.heap[k]? = some (.cells cs t fr)
theorem Kq.trans {n0 : Nat} {p : Nat -> TypeId -> Prop} {A B C : World} (h : Kq n0 p A B) (k : Kq n0 p B C) : Kq n0 p A C := ⟨h.1.trans k.1, fun j cs t fr hj hp => k.2 j cs t fr (h.2 j cs t fr hj hp) hp⟩
theorem Kq.of_below {n0 : Nat} {p : Nat -> TypeId -> Prop} {W W' : World} (h : Below W.heap.size W W') (hn : n0 <= W.heap.size) : Kq n0 p W W' := ⟨h.mono hn, fun k _ _ _ hk _ => (h.block k (Array.getElem?_eq_some_iff.1 hk).1).trans hk⟩
theorem Kq.refl (n0 : Nat) (p : Nat -> TypeId -> Prop) (W : World) : Kq n0 p W W := ⟨Below.refl _ _, fun _ _ _ _ h _ => h⟩
theorem abides_below {β : Type} {B : Nat} {J : β -> World -> Prop} (h : AbidesFrom B J) {q : β} {W W' : World} (hj : J q W) (hb : Below W.heap.size W W') : J q W' :=
 h q W W' none hj ⟨hb.os, hb.tape, hb.output, hb.size, fun k hk _ => hb.block k hk⟩ (fun r e => by cases e)
theorem wide_fn (k : Nat) : Fence.wide.fn k := trivial
theorem wide_round : Fence.wide.round = none := rfl
theorem wpListIn_load_row {P : Program} {n : Nat} {ops : Array Oper} {rest : List Oper} {o : Oper} {a : Act} {w : World} {Q : Exit -> Act -> World -> Prop} (hgd : o.guard = none) (ty : TypeId) (x : Operand) (ho : o.op = .load ty x)
  (g : Nat) (hx : a.eval x = .pointer (some ⟨g, 0, none⟩)) (t : TypeId) (cs : Array Value) (fr : Nat × Nat) (d : TypeDesc) (hg : w.heap[g]? = some (.cells cs t fr))
  (hu : P.underlying ty = some d) (hd : (match d with | .struct _ | .array _ _ => true | _ => false) = true) (hi : (P.info? ty).map (·.size) = some cs.size)
  (h : wpListIn Fence.wide n P ops Q rest (a.put o.dst (.agg cs)) w) : wpListIn Fence.wide n P ops Q (o :: rest) a w := by
 refine wpListIn_plain hgd fun K hK => ?_;have hr := run_load_row (P := P) ty x ho g hx t cs fr d hg hu hd hi;refine ⟨fun _ _ => trivial, ?_⟩;show o.uponIn _ _ P a K Q ((execOp a.eval o).run P w);rw [hr];exact hK _ _ h
theorem pcsV_at : ∀ (xs : List Pc) (k : Nat) (x : Pc), xs[k]? = some x -> (pcsV xs)[k * 2]? = some (.string x.1) /\ (pcsV xs)[k * 2 + 1]? = some (.int .i64 x.2)
 | [], _, _, h => by simp at h
 | y :: r, 0, x, h => by
  simp only [List.getElem?_cons_zero, Option.some.injEq] at h;subst h;exact ⟨rfl, rfl⟩
 | y :: r, k + 1, x, h => by
  rw [List.getElem?_cons_succ] at h;have h2 := pcsV_at r k x h;have e : (k + 1) * 2 = k * 2 + 1 + 1 := (by omega);rw [e];exact h2
theorem row2 {W : World} {A : Option Addr} {xs : List Pc} (h : RawAt W A (pcsV xs)) {k : Nat} {x : Pc} (hx : xs[k]? = some x) : ∃ g o, A = some ⟨g, o, none⟩ /\ g < W.heap.size /\ W.cell? ⟨g, o + k * 2, none⟩ = some (.string x.1) /\ W.cell? ⟨g, o + k * 2 + 1, none⟩ = some (.int .i64 x.2) := by
 obtain ⟨h1, h2⟩ := pcsV_at xs k x hx;rcases h with h | ⟨g, o, e, hr⟩
 ·rw [h] at h1;simp at h1
 ·exact ⟨g, o, e, World.block_lt_of_cell? W _ (hr _ _ h1), hr _ _ h1, hr _ _ h2⟩
set_option maxRecDepth 100000 in
set_option maxHeartbeats 4000000 in
theorem filled_seq (n : Nat) {w0 w : World} {p : Nat -> TypeId -> Prop} {B1 B2 B3 c : Nat} {A : Option Addr} {xs : List Pc} {s : ByteArray} {sp : Sp} (hb0 : Below w0.heap.size w0 w) (hr : RawAt w0 A (pcsV xs))
  (h1 : w.heap[B1]? = some (.cells #[.slice A xs.length c] 53)) (h2 : w.heap[B2]? = some (.cells #[.string s] 9)) (h3 : w.heap[B3]? = some (.cells (spC sp) 34)) (p2 : p B2 9) (p3 : p B3 34) (hn : xs.length <= 1000000) :
  SeqStopsK Fence.wide n Tryz.prog 64 #[.pointer (some ⟨B1, 0, none⟩), .pointer (some ⟨B2, 0, none⟩), .pointer (some ⟨B3, 0, none⟩)] (fun x : ByteArray => #[.string x]) (Kq w0.heap.size p) (fun ys => ys = xs.map (pieP s sp)) (fun pre => pre <+: xs.map (pieP s sp)) xs.length w := by
 intro l J Jx W hW hJ hJx hY hJ0;have b1 : W.cell? ⟨B1, 0, none⟩ = some (.slice A xs.length c) := obc ((hW.block B1 (lts h1)).trans h1) 0;obtain ⟨N0, eN⟩ : ∃ m, m = xs.length := ⟨_, rfl⟩;rw [<- eN] at b1;have EN := lh (aI eN hn);have HB := lh (hb0.trans (hW.mono hb0.size));have H2 := lh (show W.heap[B2]? = some (.cells #[.string s] 9) from (hW.block B2 (lts h2)).trans h2);have H3 := lh (show W.heap[B3]? = some (.cells (spC sp) 34) from (hW.block B3 (lts h3)).trans h3);have HP := lh (aI p2 p3);have HR := lh hr;have HY := lh hY;have HJ := lh hJ;have HJ0 := lh hJ0;clear hW hJ hJx hY hJ0 h1 h2 h3 p2 p3 hr hb0 hn eN;refine callsIn_of_wp Tryz.func64 rfl (wide_fn _) ?_ wide_round;simp only [Tryz.ntmps64, List.size_toArray, List.length_cons, List.length_nil, Nat.reduceAdd, Nat.reduceSub, Array.replicate_succ, Array.replicate_zero, List.push_toArray, List.append_toArray, List.nil_append, List.cons_append];gi_wp2_with fail
 gi_loopw [9] (fun jv wr => ∃ k : Nat, jv = .int .i64 (k : Int) /\ k <= N0 /\ Hid (J ((xs.take k).map (pieP s sp)) wr /\ Kq w0.heap.size p W wr)) (fun jv _ => N0 - (intOf jv).toNat)
 case atStart => exact ⟨0, rfl, Nat.zero_le _, lh ⟨HJ0.out, Kq.refl _ _ _⟩⟩
 case round =>
  obtain ⟨k, rfl, hk, HK⟩ := hrel;have hwb := HB.out.trans HK.out.2.1;have c2 : wr.heap[B2]? = some (.cells #[.string s] 9) := HK.out.2.2 _ _ _ _ H2.out HP.out.1;have H3r := lh (show wr.heap[B3]? = some (.cells (spC sp) 34) from HK.out.2.2 _ _ _ _ H3.out HP.out.2);have l2 := lts c2;have c2' : wr.cell? ⟨B2, 0, none⟩ = some (.string s) := obc c2 0;by_cases hlt : k < N0
  ·obtain ⟨x, hx⟩ : ∃ x, xs[k]? = some x := ⟨xs[k]'(by rw [<- EN.out.1]; exact hlt), List.getElem?_eq_getElem _⟩;obtain ⟨g, o, rfl, hgl, m1, m2⟩ := row2 HR.out hx;have lg : g < wr.heap.size := Nat.lt_of_lt_of_le hgl hwb.size;have y1 := (hwb.cell (p := ⟨g, o + k * 2, none⟩) hgl).trans m1;have y2 := (hwb.cell (p := ⟨g, o + k * 2 + 1, none⟩) hgl).trans m2;have hjI : (k : Int) < (N0 : Int) := (by omega);have hj0 : (0 : Int) <= (k : Int) := (by omega);have hwj : wrap64 ((k : Int) + 1) = ((k + 1 : Nat) : Int) := IntWalk.wrap64_in _ (by have := EN.out; omega);have hwj2 : IntKind.i64.wrap ((k : Int) + 1) = ((k + 1 : Nat) : Int) := IntWalk.i64_in _ (by have := EN.out; omega);have HX := lh (aI hx hlt);have HWB := lh hwb;clear m1 m2 hx hwb c2 hgl;obtain ⟨T, N⟩ := x;simp only at y1 y2;have HBA := lh (bW wr (.cells #[.string T, .int .i64 N] 52));have H3a := lh (show (wr.alloc (.cells #[.string T, .int .i64 N] 52)).heap[B3]? = some (.cells (spC sp) 34 (0, 0)) from (HBA.out.block B3 (lts H3r.out)).trans H3r.out);have HPI := lh fun (V : World) => (callsIn_wide (n := n - 1)).2 (piece_is s T N sp V);gi_wp2_with (refine wpListIn_load_row rfl 34 (.tmp 3) rfl B3 rfl 34 (spC sp) (0, 0) _ H3a.out Tryz.underlying34 rfl (by kernel_rfl) ?_)
   refine ⟨trivial, (fun h => by cases h), ?_⟩;with_reducible refine (HPI.out _).mono ?_
   rintro e w3 ⟨rfl, hb3⟩;have hbw := HBA.out.trans (hb3.mono HBA.out.size);have hyy := HY.out _ (pieP s sp (T, N)) w3 (abides_below HJ.out HK.out.1 hbw) (by rw [List.length_map, List.length_take]; have := HX.out.2; have := EN.out.1; omega);obtain ⟨fn, tmps, assign, body, hyr, hR⟩ := hyy
   have hRD := lh (hR.mono (R' := fun e W' => ∃ ok, e = .returned (.bool ok) /\ (ok = true -> J ((xs.take (k + 1)).map (pieP s sp)) W' /\ Kq w0.heap.size p w3 W') /\ (ok = false -> Jx ((xs.take (k + 1)).map (pieP s sp)) W')) (fun e W' h => by
    have ht : (xs.take (k + 1)).map (pieP s sp) = (xs.take k).map (pieP s sp) ++ [pieP s sp (T, N)] := (by rw [List.take_add_one, HX.out.1]; simp);rw [ht]
    exact h.elim (fun h => ⟨true, h.1, fun _ => h.2, fun h => by cases h⟩) (fun h => ⟨false, h.1, (fun h => by cases h), fun _ => h.2⟩)))
   have HW3 := lh ((Kq.of_below (p := p) hbw HWB.out.size));clear hR hb3 hbw y1 y2 c2' lg l2 b1;gi_wp2_with ((first | refine ⟨(fun h => by cases h), ?_⟩ | refine ⟨trivial, (fun h => by cases h), ?_⟩); (with_reducible refine hRD.out.mono ?_); rintro e w4 ⟨ok, rfl, hA⟩)
   ·rename_i hq;have hok : ok = false := (by simpa using hq);have HX4 := lh (hA.2 hok);clear hA hyr hq;refine bodyPost_ret (results_none rfl _ _ _) rfl ?_;exact ⟨⟨_, rfl⟩, .inr ⟨_, (List.take_prefix _ _).map _, HX4.out⟩⟩
   ·rename_i hq;have hok : ok = true := (by simpa using hq);have HJ4 := lh (hA.1 hok);exact ⟨⟨k + 1, rfl, hlt, lh ⟨HJ4.out.1, HK.out.2.trans (HW3.out.trans HJ4.out.2)⟩⟩, by simp only [intOf]; omega⟩
  ·have he : k = N0 := (by omega);subst he;have hjI : ¬ (k : Int) < (k : Int) := (by omega)
   have HF := lh (show J (xs.map (pieP s sp)) wr by
    have h := HK.out.1;rw [List.take_of_length_le (by rw [<- EN.out.1]; exact nlr _)] at h
    exact h)
   clear hwb c2 l2 c2' hlt hk;gi_wp2_with fail
   go_end0
   first | exact ⟨⟨_, rfl⟩, .inl ⟨_, rfl, HF.out⟩⟩ | exact ⟨⟨_, rfl⟩, .inl HF.out⟩
end Go.Proofs.YtflkfleihlceeaaGreatDoor

/-
 A text put behind a row of bytes of the call's own: where the row then lies. Conditions: sizes that a machine holds.
-/
import Derived.Test.YtflkfleihlceeaaGreatDoorR7
import Derived.Lib.AppendStr
namespace Go.Proofs.YtflkfleihlceeaaGreatDoor
open Go.RowKit Go.Deep Go.Shelf

theorem run_append_txt {w : World} {base : Nat} {v : Value} {l : List UInt8} (hown : w.ownsRow base 5 1 v l.length (u8V l)) (s : ByteArray) (hz : l.length + s.size <= 1000000) (hbase : base <= w.heap.size) :
  ∃ v' w', (Builtin.append_ #[83, 9] 83 #[v, .string s]).run Tryz.prog w = .ok v' w' /\ w'.ownsRow base 5 1 v' (l ++ s.data.toList).length (u8V (l ++ s.data.toList)) /\ w.grownBy w' v.ownBlock /\ ∀ k, v'.ownBlock = some k -> v.ownBlock = some k \/ w.heap.size <= k := by
 obtain ⟨i, z, hi, hz0, hs1, hby, _⟩ := elem_u8.info
 have hz8 : i.zero = some (.int .u8 0) := by
  obtain ⟨i2, h2, h3, _⟩ := info_parts info_u8;rw [hi] at h2;cases h2
  exact h3
 have hm : l.length + s.size <= maxLen := (by unfold maxLen; omega);obtain ⟨v', w', hr, h2, h3, h4⟩ := Lib.run_append_own_string (P := Tryz.prog) (w := w) base 83 9 83 5 i Tryz.underlying83 Tryz.underlying9 hi hz8 hs1 hby v l.length (u8V l) hown s hm (by omega) hbase;refine ⟨v', w', hr, ?_, h3, fun k hk => ?_⟩
 ·rw [List.length_append, u8V_append];have e : s.data.toList.length = s.size := (by simp);rw [e];exact h2
 ·rcases hown.2 with ⟨rfl, h0⟩ | ⟨g, cap, cur, rfl, hbg, hg, hnc, hcm, hcs, ht⟩
  ·by_cases hs : s.size = 0
   ·rw [h4.2 ⟨rfl, hs⟩] at hk;cases hk
   ·have h5 := run_append_nil_string (P := Tryz.prog) w 83 9 83 5 i (.int .u8 0) Tryz.underlying83 Tryz.underlying9 hi hz8 s (by omega) (by omega) (by rw [hby]; omega);rw [hr] at h5;cases h5
    exact .inr (by cases hk; exact nlr _)
  ·by_cases hroom : l.length + s.size <= cap
   ·have h5 := Lib.run_append_room_string (P := Tryz.prog) w 83 9 83 5 i Tryz.underlying83 Tryz.underlying9 hi hs1 g l.length cap cur hg s hroom (by have h : cur.size = cap := by { simpa using hcs }; omega);rw [hr] at h5;cases h5
    exact .inl hk
   ·have h5 := Lib.run_append_grow_string (P := Tryz.prog) w 83 9 83 5 i (.int .u8 0) Tryz.underlying83 Tryz.underlying9 hi hz8 ⟨g, 0, none⟩ l.length cap (u8V l) (by rw [hs1, length_u8V]; simp) (World.ownsRow.cells hown (g := g) rfl) s (by omega) (by omega) (by rw [hby]; exact growslice_fits (by omega) (by omega));rw [hr] at h5;cases h5
    exact .inr (by cases hk; exact nlr _)
theorem wpList_append_two {P : Program} {w w' : World} {ops : Array Oper} {rest : List Oper} {a : Act} {Q : Exit -> Act -> World -> Prop} {v u r : Value} {s x : Operand} {t t2 ty : TypeId} {ps : String} {af : Array Edge} (d : Tmp) (hap : (Builtin.append_ #[t, t2] ty #[v, u]).run P w = .ok r w') (hs : a.eval s = v) (hx : a.eval x = u)
  (h : wpList P ops Q rest (a.put (some d) r) w') : wpList P ops Q ({ dst := some d, op := .call { callee := .builtin .append, args := #[s, x], argTypes := #[t, t2] }, type := ty, pos := ps, after := af, guard := none } :: rest) a w := by
 refine wpList_plain rfl fun K hK => ?_;unfold Oper.wp execOp;simp only [resolve, invoke, builtin, Sem.run_bind, Sem.run_pure, Result.andThen_ok, List.map_toArray, List.map_cons, List.map_nil, hs, hx, hap];exact hK _ _ h
structure ResAt (B : Nat) (p : Nat -> TypeId -> Prop) (rb : Nat) (L : List UInt8) (W : World) : Prop where
 ex : ∃ v, W.heap[rb]? = some (.cells #[v] 85 (0, 0)) /\ W.ownsRow B 5 1 v L.length (u8V L) /\ ∀ k, v.ownBlock = some k -> k ≠ rb /\ ¬ p k 5
 rb : B <= rb /\ ¬ p rb 85
theorem ResAt.start {W : World} {B : Nat} {p : Nat -> TypeId -> Prop} {rb : Nat} (h : W.heap[rb]? = some (.cells #[.slice none 0 0] 85 (0, 0))) (hb : B <= rb /\ ¬ p rb 85) : ResAt B p rb [] W :=
 ⟨⟨_, h, World.ownsRow_nil _ _ _ _, fun k hk => by cases hk⟩, hb⟩
theorem ResAt.grown {W W' : World} {B : Nat} {p : Nat -> TypeId -> Prop} {rb : Nat} {L : List UInt8} {row : Option Nat} (h : ResAt B p rb L W) (hg : W.grownBy W' row) (hr : ∀ k, row = some k -> ∃ o : Obj, W.heap[k]? = some o /\ o.isCells = false) : ResAt B p rb L W' := by
 obtain ⟨v, h1, h2, h3⟩ := h.ex
 have key : ∀ (k : Nat) (cs : Array Value) (t : TypeId) (fr : Nat × Nat), W.heap[k]? = some (Obj.cells cs t fr) -> W'.heap[k]? = some (Obj.cells cs t fr) := fun k cs t fr hk => by
  refine (hg.block k (lts hk) fun e => ?_).trans hk;obtain ⟨o, ho, hc⟩ := hr k e.symm;rw [hk] at ho;cases ho
  cases hc
 refine ⟨⟨v, key _ _ _ _ h1, ?_, h3⟩, h.rb⟩;refine ⟨h2.1, ?_⟩;rcases h2.2 with h0 | ⟨g, cap, cur, e, hb, hg2, rest⟩
 ·exact .inl h0
 ·exact .inr ⟨g, cap, cur, e, hb, key _ _ _ _ hg2, rest⟩
theorem ResAt.weaken {W : World} {B : Nat} {p q : Nat -> TypeId -> Prop} {rb : Nat} {L : List UInt8} (h : ResAt B p rb L W) (hq : ∀ k t, q k t -> p k t) : ResAt B q rb L W := by
 obtain ⟨v, h1, h2, h3⟩ := h.ex;exact ⟨⟨v, h1, h2, fun k hk => ⟨(h3 k hk).1, fun e => (h3 k hk).2 (hq k _ e)⟩⟩, h.rb.1, fun e => h.rb.2 (hq _ _ e)⟩
def AddA (B : Nat) (p : Nat -> TypeId -> Prop) (rb : Nat) (L : List UInt8) (s : ByteArray) (W : World) (e : Ending) (W' : World) : Prop :=
 Kq B p W W' /\ KeepsOthers W W' /\ ((L.length + s.size <= 1024 /\ e = .returned (.bool true) /\ ResAt B p rb (L ++ s.data.toList) W') \/ (1024 < L.length + s.size /\ e = .returned (.bool false) /\ W' = W))
set_option maxRecDepth 100000 in
set_option maxHeartbeats 2000000 in
theorem radd_is {B : Nat} {p : Nat -> TypeId -> Prop} {rb : Nat} {L : List UInt8} {W : World} (s : ByteArray) (h : ResAt B p rb L W) (hL : L.length <= 1024) (hB : B <= W.heap.size) (hp : ∀ k, W.heap.size <= k -> ¬ p k 5) :
  Calls Tryz.prog 38 #[.pointer (some ⟨rb, 0, none⟩), .string s] W (AddA B p rb L s W) := by
 obtain ⟨v, h1, h2, h3⟩ := h.ex;obtain ⟨A, c, rfl, hc, _, _⟩ := own_form h2;have h2' := h2;have c1 : W.cell? ⟨rb, 0, none⟩ = some (.slice A L.length c) := obc h1 0;have hlt := lts h1;obtain ⟨n, hn⟩ : ∃ n, n = L.length := ⟨_, rfl⟩;have HN := lh hn;have w1 : wrap64 (1024 - (n : Int)) = 1024 - (n : Int) := IntWalk.wrap64_in _ (by omega);have w2 : IntKind.i64.wrap (1024 - (n : Int)) = 1024 - (n : Int) := IntWalk.i64_in _ (by omega);rw [<- hn] at c1;by_cases hz : 1024 < n + s.size
 ·have d1 : decide (1024 - (n : Int) < (s.size : Int)) = true := dqt (by omega);clear hn;go_enter Tryz.func38, Tryz.ntmps38;go_wp2_with fail;go_ret;exact ⟨Kq.refl _ _ _, ⟨nlr _, fun _ _ h _ => h⟩, .inr ⟨by rw [<- HN.out]; exact hz, rfl, rfl⟩⟩
 ·have d1 : decide (1024 - (n : Int) < (s.size : Int)) = false := dqf (by omega);obtain ⟨v', w', hr, hown, hg, hk⟩ := run_append_txt h2 s (by omega) hB;obtain ⟨A2, k2, ev, _⟩ := own_form hown;subst ev;obtain ⟨n2, hn2⟩ : ∃ n2, n2 = (L ++ s.data.toList).length := ⟨_, rfl⟩;have HN2 := lh hn2;have HX := lh (aI hown (aI hg (aI hk (aI h1 h3))));have hbl : rb < w'.heap.size := Nat.lt_of_lt_of_le hlt hg.size;have h1' : w'.heap[rb]? = some (.cells #[.slice A L.length c] 85 (0, 0)) := (hg.block rb hlt fun e => (h3 rb e.symm).1 rfl).trans h1;have hfz : w'.frozen? ⟨rb, 0, none⟩ = false := frozen_of_row w' rb 0 _ _ h1';have c2 : w'.cell? ⟨rb, 0, none⟩ = some (.slice A L.length c) := obc h1' 0;rw [<- hn, <- hn2] at hr;rw [<- hn] at c2;clear hn2 hn hown hg hk h1 h2 h3;go_enter Tryz.func38, Tryz.ntmps38
  go_wp2_with (refine wpList_append_two 20 hr rfl rfl ?_)
  go_ret;obtain ⟨hown, hg, hk, h1, h3⟩ := HX.out;obtain ⟨hown, hg, hk, h1, h3⟩ := HX.out;have hs2 := heap_setCell_same w' rb 0 _ _ (.slice A2 n2 k2) h1';have hot : ∀ k, k ≠ rb -> (w'.setCell ⟨rb, 0, none⟩ (.slice A2 n2 k2)).heap[k]? = w'.heap[k]? := fun k hk => heap_setCell_other w' ⟨rb, 0, none⟩ k _ hk;have hpz := hg.size;have hsz : (w'.setCell ⟨rb, 0, none⟩ (.slice A2 n2 k2)).heap.size = w'.heap.size := (by simp)
  have hoth : ∀ (k : Nat) (o : Obj), W.heap[k]? = some o -> k ≠ rb -> (∀ j, (Value.slice A L.length c).ownBlock = some j -> k ≠ j) -> (w'.setCell ⟨rb, 0, none⟩ (.slice A2 n2 k2)).heap[k]? = some o := fun k o ho hkr hko => by
   rw [hot k hkr, hg.block k (lts ho) fun e => hko k e.symm rfl];exact ho
  have hne : ∀ k, (Value.slice A2 (L ++ s.data.toList).length k2).ownBlock = some k -> k ≠ rb /\ ¬ p k 5 := fun k hk2 => by
   rcases hk k hk2 with h5 | h5
   ·exact h3 k h5
   ·exact ⟨by omega, hp k h5⟩
  have hrbt : ∀ (k : Nat) (cs : Array Value) (t : TypeId) (fr : Nat × Nat), W.heap[k]? = some (Obj.cells cs t fr) -> k = rb -> ¬ p k t := fun k cs t fr ho e hpk => by
   subst e;rw [h1] at ho;cases ho
   exact h.rb.2 hpk
  have hrow : ∀ (k : Nat) (cs : Array Value) (t : TypeId) (fr : Nat × Nat), W.heap[k]? = some (Obj.cells cs t fr) -> (Value.slice A L.length c).ownBlock = some k -> ¬ p k t := fun k cs t fr ho hj hpk => by
   rcases h2'.2 with ⟨e1, _⟩ | ⟨g, cap, cur, e1, _, hgg, _⟩
   ·rw [e1] at hj;cases hj
   ·have hj2 := hj;rw [e1] at hj2;have e5 : g = k := (by simpa [Value.ownBlock] using hj2);subst e5;rw [hgg] at ho;cases ho
    exact (h3 g hj).2 hpk
  have hB3 : Below B W w' := ⟨hg.os, hg.tape, hg.output, hg.size, fun k hkB => hg.block k (by omega) fun e => by
   have := (World.ownsRow.lt h2' k e.symm).1
   omega⟩
  refine ⟨⟨hB3.setCell h.rb.1 _, fun k cs t fr ho hpk => hoth k _ ho (fun e => hrbt k cs t fr ho e hpk) fun j hj e => hrow k cs t fr ho (by rw [e]; exact hj) hpk⟩, ⟨by rw [hsz]; exact hpz, fun k o ho hoc => hoth k o ho (fun e => ?_) fun j hj e => ?_⟩, .inl ⟨by rw [<- HN.out]; omega, rfl, ⟨_, by rw [hs2]; rfl, ?_, ?_⟩, h.rb⟩⟩
  ·subst e;rw [h1] at ho;cases ho
   cases hoc
  ·subst e;rcases h2'.2 with ⟨e1, _⟩ | ⟨g, cap, cur, e1, _, hgg, _⟩
   ·rw [e1] at hj;cases hj
   ·rw [e1] at hj;have e5 : g = k := (by simpa [Value.ownBlock] using hj);subst e5;rw [hgg] at ho;cases ho
    cases hoc
  ·have e2 := HN2.out;subst e2;exact ownsRow_turned hown (S := fun k => k = rb) ⟨rfl, rfl, rfl, Nat.le_of_eq hsz.symm, fun k _ hk2 => hot k hk2⟩ fun k hk2 e => (hne k hk2).1 e
  ·rw [HN2.out];exact hne
end Go.Proofs.YtflkfleihlceeaaGreatDoor

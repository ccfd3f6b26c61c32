/-
 Package replace's addAll: the texts of the pieces put behind the result, as long as there is room. Conditions: as filled_seq's; the result's box and row are none of the boxes that are read.
-/
import Derived.Test.YtflkfleihlceeaaGreatDoorR8
namespace Go.Proofs.YtflkfleihlceeaaGreatDoor
open Go.RowKit Go.Deep Go.Shelf

attribute [local go_sem] Oper.semAt_some

theorem ResAt.more {W : World} {B : Nat} {p : Nat -> TypeId -> Prop} {rb : Nat} {L : List UInt8} (h : ResAt B p rb L W) (q : Nat -> TypeId -> Prop) (hq : ∀ k t, q k t -> W.heap.size <= k) : ResAt B (fun k t => p k t \/ q k t) rb L W := by
 obtain ⟨v, h1, h2, h3⟩ := h.ex;refine ⟨⟨v, h1, h2, fun k hk => ⟨(h3 k hk).1, fun e => ?_⟩⟩, h.rb.1, fun e => ?_⟩
 ·rcases e with e | e
  ·exact (h3 k hk).2 e
  ·have h4 := (World.ownsRow.lt h2 k hk).2;have h5 := hq k _ e;omega
 ·rcases e with e | e
  ·exact h.rb.2 e
  ·have h4 := lts h1;have h5 := hq _ _ e;omega
theorem ResAt.alloc {W : World} {B : Nat} {p : Nat -> TypeId -> Prop} {rb : Nat} {L : List UInt8} (h : ResAt B p rb L W) (o : Obj) : ResAt B p rb L (W.alloc o) := h.grown (World.grownBy_alloc W o none) fun k e => by cases e
def flatB (xs : List ByteArray) : List UInt8 := (xs.map fun x => x.data.toList).flatten
theorem flatB_push (xs : List ByteArray) (x : ByteArray) : flatB (xs ++ [x]) = flatB xs ++ x.data.toList := by simp [flatB]
structure AddI (W0 : World) (B : Nat) (p : Nat -> TypeId -> Prop) (rb m : Nat) (L : List UInt8) (W : World) : Prop where
 r : ResAt B (fun k t => p k t \/ (W0.heap.size <= k /\ k < W0.heap.size + 2)) rb L W
 l : L.length <= 1024
 b : W.heap[W0.heap.size]? = some (.cells #[.pointer (some ⟨rb, 0, none⟩)] 128 (0, 0)) /\ W.heap[W0.heap.size + 1]? = some (.cells #[.bool false] 4 (0, 0))
 q : Kq B p W0 W
 o : KeepsOthers W0 W
 m : m <= W.heap.size
theorem grown_cells {W W' : World} {row : Option Nat} (hg : W.grownBy W' row) (hr : ∀ k, row = some k -> ∃ o : Obj, W.heap[k]? = some o /\ o.isCells = false) {k : Nat} {cs : Array Value} {t : TypeId} {fr : Nat × Nat} (hk : W.heap[k]? = some (.cells cs t fr)) : W'.heap[k]? = some (.cells cs t fr) := by
 refine (hg.block k (lts hk) fun e => ?_).trans hk;obtain ⟨o, ho, hc⟩ := hr k e.symm;rw [hk] at ho;cases ho
 cases hc
theorem AddI.own {W0 : World} {B : Nat} {p : Nat -> TypeId -> Prop} {rb m : Nat} {L : List UInt8} {W W' : World} {row : Option Nat} (h : AddI W0 B p rb m L W) (hB : B <= W0.heap.size) (hm : W0.heap.size <= m) (hg : W.grownBy W' row) (hr : ∀ k, row = some k -> m <= k /\ ∃ o : Obj, W.heap[k]? = some o /\ o.isCells = false) : AddI W0 B p rb m L W' := by
 have hr2 : ∀ k, row = some k -> ∃ o : Obj, W.heap[k]? = some o /\ o.isCells = false := fun k e => (hr k e).2;refine ⟨h.r.grown hg hr2, h.l, ⟨grown_cells hg hr2 h.b.1, grown_cells hg hr2 h.b.2⟩, h.q.trans ⟨⟨hg.os, hg.tape, hg.output, hg.size, fun k hk => hg.block k (by have := h.m; omega) fun e => by have := (hr k e.symm).1; omega⟩, fun k cs t fr hk _ => grown_cells hg hr2 hk⟩, ⟨Nat.le_trans h.o.1 hg.size, fun k o hk ho => ?_⟩, Nat.le_trans h.m hg.size⟩;have h1 := h.o.2 k o hk ho;refine (hg.block k (lts h1) fun e => ?_).trans h1;have h2 := (hr k e.symm).1;have h3 := lts hk;omega
structure AddX (W0 : World) (B : Nat) (p : Nat -> TypeId -> Prop) (m : Nat) (L : List UInt8) (W : World) : Prop where
 l : 1024 < L.length
 b : W.heap[W0.heap.size + 1]? = some (.cells #[.bool false] 4 (0, 0))
 q : Kq B p W0 W
 o : KeepsOthers W0 W
 m : m <= W.heap.size
theorem AddX.own {W0 : World} {B : Nat} {p : Nat -> TypeId -> Prop} {m : Nat} {L : List UInt8} {W W' : World} {row : Option Nat} (h : AddX W0 B p m L W) (hB : B <= W0.heap.size) (hm : W0.heap.size <= m) (hg : W.grownBy W' row) (hr : ∀ k, row = some k -> m <= k /\ ∃ o : Obj, W.heap[k]? = some o /\ o.isCells = false) : AddX W0 B p m L W' := by
 have hr2 : ∀ k, row = some k -> ∃ o : Obj, W.heap[k]? = some o /\ o.isCells = false := fun k e => (hr k e).2;refine ⟨h.l, grown_cells hg hr2 h.b, h.q.trans ⟨⟨hg.os, hg.tape, hg.output, hg.size, fun k hk => hg.block k (by have := h.m; omega) fun e => by have := (hr k e.symm).1; omega⟩, fun k cs t fr hk _ => grown_cells hg hr2 hk⟩, ⟨Nat.le_trans h.o.1 hg.size, fun k o hk ho => ?_⟩, Nat.le_trans h.m hg.size⟩;have h1 := h.o.2 k o hk ho;refine (hg.block k (lts h1) fun e => ?_).trans h1;have h2 := (hr k e.symm).1;have h3 := lts hk;omega
theorem Kq.put {n0 : Nat} {p : Nat -> TypeId -> Prop} {w : World} (hn : n0 <= w.heap.size) (W : World) (l : Nat) (o o' : Obj) (hl : w.heap.size <= l) (h : W.heap[l]? = some o) (hc : o.isCells = false) (hw : o.isWalk = false) : Kq n0 p W (W.putObj l o') :=
 ⟨belowK_b hn W l o o' hl h hc hw, fun k cs t fr hk _ => by
  have e : k ≠ l := fun e => by
   subst e;rw [h] at hk;cases hk
   cases hc
  exact (World.putObj_heap_other e).trans hk⟩
theorem others_trans {A B C : World} (h : KeepsOthers A B) (k : KeepsOthers B C) : KeepsOthers A C := ⟨Nat.le_trans h.1 k.1, fun i o hi ho => k.2 i o (h.2 i o hi ho) ho⟩
theorem res_bool {fn : Func} {p : Tmp} (h : fn.results = #[.cell p 4]) (tmps : Array Value) (w : World) (g : Nat) (b : Bool) (hp : tmps.getD p undef = .pointer (some ⟨g, 0, none⟩)) (hg : w.cell? ⟨g, 0, none⟩ = some (.bool b)) : (results fn tmps).run Tryz.prog w = .ok (.bool b) w := by
 have hp' : tmps[p]?.getD undef = .pointer (some ⟨g, 0, none⟩) := (by simpa using hp);simp [results, h, hp', asAddr, go_sem, hg]
theorem others_put {W0 V : World} {D : Nat} {o : Obj} (h : KeepsOthers W0 V) (hD : W0.heap.size <= D) : KeepsOthers W0 (V.putObj D o) :=
 ⟨by rw [show (V.putObj D o).heap.size = V.heap.size by simp [World.putObj]]; exact h.1, fun k o' hk ho => by
  have h1 := lts hk
  exact (World.putObj_heap_other (by omega)).trans (h.2 k o' hk ho)⟩
set_option maxRecDepth 100000 in
set_option maxHeartbeats 4000000 in
theorem addAll_is {w0 W : World} {p : Nat -> TypeId -> Prop} {rb B1 B2 B3 c : Nat} {A : Option Addr} {xs : List Pc} {s : ByteArray} {sp : Sp} {L : List UInt8} (hb0 : Below w0.heap.size w0 W) (hr : RawAt w0 A (pcsV xs))
  (h1 : W.heap[B1]? = some (.cells #[.slice A xs.length c] 53)) (h2 : W.heap[B2]? = some (.cells #[.string s] 9)) (h3 : W.heap[B3]? = some (.cells (spC sp) 34)) (p2 : p B2 9) (p3 : p B3 34) (hn : xs.length <= 1000000)
  (hR : ResAt w0.heap.size p rb L W) (hL : L.length <= 1024) (hp : ∀ k, W.heap.size <= k -> ¬ p k 5 /\ ¬ p k 4) :
  Calls Tryz.prog 39 #[.pointer (some ⟨rb, 0, none⟩), .func (.func 64) #[] #[.pointer (some ⟨B1, 0, none⟩), .pointer (some ⟨B2, 0, none⟩), .pointer (some ⟨B3, 0, none⟩)]] W fun e W' =>
   Kq w0.heap.size p W W' /\ KeepsOthers W W' /\ ((e = .returned (.bool true) /\ (L ++ flatB (xs.map (pieP s sp))).length <= 1024 /\ ResAt w0.heap.size p rb (L ++ flatB (xs.map (pieP s sp))) W') \/ (e = .returned (.bool false) /\ 1024 < (L ++ flatB (xs.map (pieP s sp))).length)) := by
 refine (callsIn_wide (n := 4)).1 ?_;obtain ⟨W2, eW2⟩ : ∃ W2, W2 = (W.alloc (.cells #[.pointer (some ⟨rb, 0, none⟩)] 128)).alloc (.cells #[.bool false] 4) := ⟨_, rfl⟩;have hs2 : W2.heap.size = W.heap.size + 2 := (by rw [eW2]; simp);have hbw : Below W.heap.size W W2 := (by rw [eW2]; exact ((Below.refl _ W).alloc (nlr _) _).alloc (by simp) _)
 have hI : AddI W w0.heap.size p rb W2.heap.size L W2 := by
  have hm := hR.more (fun k _ => W.heap.size <= k /\ k < W.heap.size + 2) fun k _ hk => hk.1;refine ⟨by rw [eW2]; exact (hm.alloc _).alloc _, hL, ⟨?_, ?_⟩, Kq.of_below hbw hb0.size, ⟨hbw.size, fun k o hk _ => (hbw.block k (lts hk)).trans hk⟩, nlr _⟩
  ·rw [eW2];exact (heap_alloc_old _ _ _ (by simp)).trans (heap_alloc_new W _)
  ·rw [eW2];have := heap_alloc_new (W.alloc (.cells #[.pointer (some ⟨rb, 0, none⟩)] 128)) (.cells #[.bool false] 4);rw [World.size_alloc] at this;exact this
 have HSEQ := lh fun (n : Nat) => filled_seq n (w0 := w0) (w := W2) (p := p) (c := c) (B1 := B1) (s := s) (sp := sp) (hb0.trans (hbw.mono hb0.size)) hr ((hbw.block B1 (lts h1)).trans h1) ((hbw.block B2 (lts h2)).trans h2) ((hbw.block B3 (lts h3)).trans h3) p2 p3 hn;have HI := lh hI;have HZ := lh (aI hs2 (aI hb0.size hp));clear hs2 hbw hI hb0 hr h1 h2 h3 p2 p3 hn hR hL hp;refine callsIn_of_wp_marks Tryz.func39 rfl trivial ?_ rfl;simp only [Tryz.ntmps39, List.size_toArray, List.length_cons, List.length_nil, Nat.reduceAdd, Nat.reduceSub, Array.replicate_succ, Array.replicate_zero, List.push_toArray, List.append_toArray, List.nil_append, List.cons_append];gi_wp2_with fail
 rw [<- eW2];clear eW2
 refine wpIn_rangeFunc_ownF rfl (by omega) (gf := 64) (lb := #[.pointer (some ⟨B1, 0, none⟩), .pointer (some ⟨B2, 0, none⟩), .pointer (some ⟨B3, 0, none⟩)]) rfl trivial (enters_of Tryz.func64 (by kernel_rfl) rfl)
  (HSEQ.out _) (fun h k => Kq.trans h k) (Kq.put (by have := HZ.out; omega)) (Below.refl _ _) (fun _ => rfl)
  (fun pre V => AddI W w0.heap.size p rb W2.heap.size (L ++ flatB pre) V)
  (fun c pre V => c = .ret /\ AddX W w0.heap.size p W2.heap.size (L ++ flatB pre) V)
  (fun pre A V row h hg hr => AddI.own h HZ.out.2.1 (by have := HZ.out; omega) hg hr)
  (fun c pre A V row h hg hr => ⟨h.1, AddX.own h.2 HZ.out.2.1 (by have := HZ.out; omega) hg hr⟩)
  (by have h := HI.out; rw [show L ++ flatB [] = L by simp [flatB]]; exact h)
  (fun x => { tmps := #[.pointer (some ⟨rb, 0, none⟩), .func (.func 64) #[] #[.pointer (some ⟨B1, 0, none⟩), .pointer (some ⟨B2, 0, none⟩), .pointer (some ⟨B3, 0, none⟩)], .pointer (some ⟨W.heap.size, 0, none⟩), undef, .pointer (some ⟨W.heap.size + 1, 0, none⟩), .string x, .func (.func 64) #[] #[.pointer (some ⟨B1, 0, none⟩), .pointer (some ⟨B2, 0, none⟩), .pointer (some ⟨B3, 0, none⟩)], .string x, undef, undef, undef, undef], defers := [] }) ?assign ?body ?done ?stop
 case assign =>
  intro l x V K hK
  gi_wp2
  exact hK
 case body =>
  rintro l pre x V hI hlen;have c0 : V.cell? ⟨W.heap.size, 0, none⟩ = some (.pointer (some ⟨rb, 0, none⟩)) := obc hI.b.1 0;have c1 : V.cell? ⟨W.heap.size + 1, 0, none⟩ = some (.bool false) := obc hI.b.2 0;have fz := frozen_of_row V (W.heap.size + 1) 0 _ _ hI.b.2
  have hw := lh (radd_is (W := V) x hI.r hI.l (by have := HZ.out; have := hI.m; omega) (fun k hk hq => by
   have h1 := HZ.out;have h2 := hI.m;rcases hq with hq | hq
   ·exact (h1.2.2 k (by omega)).1 hq
   ·omega))
  have HIV := lh hI;clear hI;gi_wp2_with (refine ⟨trivial, ?_⟩; gi_at_call 38; (with_reducible refine (CallsIn.inRound l (callsIn_wide.2 hw.out)).mono ?_); rintro e V2 ⟨hq, ho, h3⟩; rcases h3 with ⟨hz, rfl, hr⟩ | ⟨hz, rfl, rfl⟩)
  ·have hI := HIV.out;have hkq : Kq w0.heap.size p V V2 := ⟨hq.1, fun k cs t fr hk hp => hq.2 k cs t fr hk (.inl hp)⟩;refine ⟨ho, hkq, by rw [flatB_push, <- List.append_assoc]; exact hr, ?_, ⟨hq.2 _ _ _ _ hI.b.1 (.inr ⟨nlr _, by omega⟩), hq.2 _ _ _ _ hI.b.2 (.inr ⟨by omega, by omega⟩)⟩, hI.q.trans hkq, others_trans hI.o ho, Nat.le_trans hI.m ho.1⟩;rw [flatB_push, <- List.append_assoc, List.length_append];simpa using hz
  ·have hI := HIV.out;have hs := heap_setCell_same V2 (W.heap.size + 1) 0 _ _ (.bool false) hI.b.2;have hot : ∀ k, k ≠ W.heap.size + 1 -> (V2.setCell ⟨W.heap.size + 1, 0, none⟩ (.bool false)).heap[k]? = V2.heap[k]? := fun k hk => heap_setCell_other V2 ⟨W.heap.size + 1, 0, none⟩ k _ hk;have hsz : (V2.setCell ⟨W.heap.size + 1, 0, none⟩ (.bool false)).heap.size = V2.heap.size := (by simp)
   have hko : KeepsOthers V2 (V2.setCell ⟨W.heap.size + 1, 0, none⟩ (.bool false)) := ⟨Nat.le_of_eq hsz.symm, fun k o hk hc => by
    rw [hot k fun e => ?_]
    ·exact hk
    ·subst e;rw [hI.b.2] at hk;cases hk
     cases hc⟩
   refine ⟨hko, rfl, ?_, by rw [hs]; rfl, hI.q.trans ⟨(Below.refl _ V2).setCell (by have := HZ.out; show w0.heap.size <= W.heap.size + 1; omega) _, fun k cs t fr hk hp => ?_⟩, others_trans hI.o hko, by rw [hsz]; exact hI.m⟩
   ·rw [flatB_push, <- List.append_assoc, List.length_append];simpa using hz
   ·rw [hot k fun e => ?_]
    ·exact hk
    ·subst e;rw [hI.b.2] at hk;cases hk
     exact (HZ.out.2.2 _ (by omega)).2 hp
 case done =>
  rintro D ys V hD rfl hI hK;have c1 : V.cell? ⟨W.heap.size + 1, 0, none⟩ = some (.bool false) := obc hI.b.2 0;have fz := frozen_of_row V (W.heap.size + 1) 0 _ _ hI.b.2;have HIV := lh (aI hI (aI hD hK));clear hI hD hK;gi_wp2_with fail
  obtain ⟨hI, hD, hK⟩ := HIV.out;have hs := heap_setCell_same V (W.heap.size + 1) 0 _ _ (.bool true) hI.b.2;have hot : ∀ k, k ≠ W.heap.size + 1 -> (V.setCell ⟨W.heap.size + 1, 0, none⟩ (.bool true)).heap[k]? = V.heap[k]? := fun k hk => heap_setCell_other V ⟨W.heap.size + 1, 0, none⟩ k _ hk;have hsz : (V.setCell ⟨W.heap.size + 1, 0, none⟩ (.bool true)).heap.size = V.heap.size := (by simp);have hz := HZ.out;have hK' : (V.setCell ⟨W.heap.size + 1, 0, none⟩ (.bool true)).heap[D]? = some (.deferred (some [])) := (hot D (by omega)).trans hK
  have hko : KeepsOthers V (V.setCell ⟨W.heap.size + 1, 0, none⟩ (.bool true)) := ⟨Nat.le_of_eq hsz.symm, fun k o hk hc => by
   rw [hot k fun e => ?_]
   ·exact hk
   ·subst e;rw [hI.b.2] at hk;cases hk
    cases hc⟩
  have hkq : Kq w0.heap.size p V (V.setCell ⟨W.heap.size + 1, 0, none⟩ (.bool true)) := ⟨(Below.refl _ V).setCell (by show w0.heap.size <= W.heap.size + 1; omega) _, fun k cs t fr hk hp => by
   rw [hot k fun e => ?_]
   ·exact hk
   ·subst e;rw [hI.b.2] at hk;cases hk
    exact (hz.2.2 _ (by omega)).2 hp⟩
  have hres : ResAt w0.heap.size p rb (L ++ flatB (xs.map (pieP s sp))) (V.setCell ⟨W.heap.size + 1, 0, none⟩ (.bool true)) := by
   obtain ⟨v, g1, g2, g3⟩ := hI.r.ex;refine ⟨⟨v, (hot rb fun e => hI.r.rb.2 (.inr (by omega))).trans g1, ownsRow_turned g2 (S := fun k => k = W.heap.size + 1) ⟨rfl, rfl, rfl, Nat.le_of_eq hsz.symm, fun k _ hk2 => hot k hk2⟩ (fun k hk e => (g3 k hk).2 (.inr (by omega))), fun k hk => ⟨(g3 k hk).1, fun e => (g3 k hk).2 (.inl e)⟩⟩, hI.r.rb.1, fun e => hI.r.rb.2 (.inl e)⟩
  refine ⟨by simp, .inl ⟨_, _, rfl, run_takeDeferred hK', _, res_bool rfl _ _ (W.heap.size + 1) true rfl ?_, ?_, ?_, ?_⟩⟩
  ·rw [show ((V.setCell ⟨W.heap.size + 1, 0, none⟩ (.bool true)).putObj D (.deferred none)).cell? ⟨W.heap.size + 1, 0, none⟩ = _ from obc ((World.putObj_heap_other (by omega)).trans hs) 0];rfl
  ·exact hI.q.trans (hkq.trans (Kq.put (w := W2) (by omega) _ D _ _ hD hK' rfl rfl))
  ·exact others_put (others_trans hI.o hko) (by omega)
  ·exact .inl ⟨rfl, hI.l, hres.grown (grownBy_putObj' _ D _) fun k e => by
    cases e
    exact ⟨_, hK', rfl⟩⟩
 case stop =>
  rintro D c pre V hD hp ⟨rfl, hX⟩ hK;have HIV := lh (aI hX (aI hD hK));clear hX hD hK;gi_wp2_with fail
  obtain ⟨hX, hD, hK⟩ := HIV.out;have hz := HZ.out;refine ⟨by simp, .inl ⟨_, _, rfl, run_takeDeferred hK, _, res_bool rfl _ _ (W.heap.size + 1) false rfl ?_, ?_, ?_, ?_⟩⟩
  ·rw [show (V.putObj D (.deferred none)).cell? ⟨W.heap.size + 1, 0, none⟩ = _ from obc ((World.putObj_heap_other (by omega)).trans hX.b) 0];rfl
  ·exact hX.q.trans (Kq.put (w := W2) (by omega) _ D _ _ hD hK rfl rfl)
  ·exact others_put hX.o (by omega)
  ·refine .inr ⟨rfl, Nat.lt_of_lt_of_le hX.l ?_⟩;obtain ⟨t, ht⟩ := hp;rw [<- ht];simp [flatB]
end Go.Proofs.YtflkfleihlceeaaGreatDoor

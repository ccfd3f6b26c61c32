/-
 Package replace's chosen as a range takes it: the matches from the count-th one on, or that one alone. Conditions: as matches_seq's.
-/
import Derived.Test.YtflkfleihlceeaaGreatDoorR12
import Derived.Test.YtflkfleihlceeaaGreatDoorR15
namespace Go.Proofs.YtflkfleihlceeaaGreatDoor
open Go.RowKit Go.Deep Go.Shelf

attribute [local go_sem] Oper.semAt_some

theorem wpListIn_mat_store_r {n l : Nat} {ops : Array Oper} {rest : List Oper} {o : Oper} {a : Act} {w : World} {Q : Exit -> Act -> World -> Prop} (hgd : o.guard = none) (x y : Operand) (ho : o.op = .store 34 x y) (sp : Sp) (hx : a.eval x = .pointer (some ⟨w.heap.size, 0, none⟩)) (hy : a.eval y = .agg (spC sp))
  (h : wpListIn (Fence.wide.inRound l) n Tryz.prog ops Q rest (a.put o.dst undef) (w.alloc (.cells (spC sp) 34))) : wpListIn (Fence.wide.inRound l) n Tryz.prog ops Q (o :: rest) a (w.alloc (.cells #[.int .i64 0, .int .i64 0, .int .i64 0, .int .i64 0, .int .i64 0, .int .i64 0, .int .i64 0, .int .i64 0, .int .i64 0, .int .i64 0, .int .i64 0, .int .i64 0, .int .i64 0, .int .i64 0, .int .i64 0, .int .i64 0, .int .i64 0, .int .i64 0, .int .i64 0, .int .i64 0] 34)) := by
 refine wpListIn_plain hgd fun K hK => ?_;have hr := run_storeVar_row (P := Tryz.prog) _ w.heap.size 34 34 _ (spC sp) (heap_alloc_new w (.cells #[.int .i64 0, .int .i64 0, .int .i64 0, .int .i64 0, .int .i64 0, .int .i64 0, .int .i64 0, .int .i64 0, .int .i64 0, .int .i64 0, .int .i64 0, .int .i64 0, .int .i64 0, .int .i64 0, .int .i64 0, .int .i64 0, .int .i64 0, .int .i64 0, .int .i64 0, .int .i64 0] 34)) (by kernel_rfl) rfl (spC_one sp);rw [World.setRow_alloc_new] at hr
 have hse : o.semAt (some l) a.eval = execOp a.eval o := by
  unfold Oper.semAt;rw [ho]
 have hx2 : (execOp a.eval o).run Tryz.prog (w.alloc (.cells #[.int .i64 0, .int .i64 0, .int .i64 0, .int .i64 0, .int .i64 0, .int .i64 0, .int .i64 0, .int .i64 0, .int .i64 0, .int .i64 0, .int .i64 0, .int .i64 0, .int .i64 0, .int .i64 0, .int .i64 0, .int .i64 0, .int .i64 0, .int .i64 0, .int .i64 0, .int .i64 0] 34)) = .ok .skip (w.alloc (.cells (spC sp) 34)) := by
  unfold execOp;simp only [ho, hx, hy, Instr.storeAt, Instr.sureAddr, Sem.run_bind, Sem.run_pure, Result.andThen_ok, hr]
 refine ⟨fun _ _ => trivial, ?_⟩;show o.uponIn _ _ Tryz.prog a K Q ((o.semAt (some l) a.eval).run Tryz.prog _);rw [hse, hx2];exact hK _ _ h
theorem wpListIn_load_row_r {P : Program} {n l : Nat} {ops : Array Oper} {rest : List Oper} {o : Oper} {a : Act} {w : World} {Q : Exit -> Act -> World -> Prop} (hgd : o.guard = none) (ty : TypeId) (x : Operand) (ho : o.op = .load ty x)
  (g : Nat) (hx : a.eval x = .pointer (some ⟨g, 0, none⟩)) (t : TypeId) (cs : Array Value) (fr : Nat × Nat) (d : TypeDesc) (hg : w.heap[g]? = some (.cells cs t fr))
  (hu : P.underlying ty = some d) (hd : (match d with | .struct _ | .array _ _ => true | _ => false) = true) (hi : (P.info? ty).map (·.size) = some cs.size)
  (h : wpListIn (Fence.wide.inRound l) n P ops Q rest (a.put o.dst (.agg cs)) w) : wpListIn (Fence.wide.inRound l) n P ops Q (o :: rest) a w := by
 refine wpListIn_plain hgd fun K hK => ?_;have hr := run_load_row (P := P) ty x ho g hx t cs fr d hg hu hd hi
 have hse : o.semAt (some l) a.eval = execOp a.eval o := by
  unfold Oper.semAt;rw [ho]
 refine ⟨fun _ _ => trivial, ?_⟩;show o.uponIn _ _ P a K Q ((o.semAt (some l) a.eval).run P w);rw [hse, hr];exact hK _ _ h
def Kr (n0 : Nat) (p : Nat -> TypeId -> Prop) (m : Nat) (W W' : World) : Prop := Kq n0 p W W' /\ Stay m W W'
theorem Kr.trans {n0 m : Nat} {p : Nat -> TypeId -> Prop} {A B C : World} (h : Kr n0 p m A B) (k : Kr n0 p m B C) : Kr n0 p m A C := ⟨h.1.trans k.1, h.2.trans k.2⟩
theorem Stay.weaken {m k : Nat} {A B : World} (h : Stay m A B) (hk : m <= k) : Stay k A B := fun i o hi ho hc => h i o (Nat.le_trans hk hi) ho hc
theorem roundIn_any {P : Program} {n m l l2 : Nat} {f : FuncId} {tmps : Array Value} {assign body : Code} {w : World} {R : Ending -> World -> Prop} (h : RoundIn Fence.wide n P l f tmps assign body w R) : RoundIn (Fence.wide.inRound l2) m P l f tmps assign body w R := ⟨h.1, fun c cs _ => h.2 c cs (room_wide _)⟩
structure SeenPut (g : Nat) (m : Int) (V V1 : World) : Prop where
 same : V1.heap[g]? = some (.cells #[.int .i64 m] 3 (0, 0))
 other : ∀ k, k ≠ g -> V1.heap[k]? = V.heap[k]?
 grown : V.grownBy V1 (some g)
 size : V1.heap.size = V.heap.size
theorem seen_put {V : World} {g : Nat} {n : Int} (m : Int) (h : V.heap[g]? = some (.cells #[.int .i64 n] 3 (0, 0))) : SeenPut g m V (V.setCell ⟨g, 0, none⟩ (.int .i64 m)) :=
 ⟨heap_setCell_same V g 0 _ _ (.int .i64 m) h, fun k hk => heap_setCell_other V ⟨g, 0, none⟩ k _ hk, ⟨rfl, rfl, rfl, by simp, fun k _ hk => heap_setCell_other V ⟨g, 0, none⟩ k _ (fun e => hk (by rw [e]))⟩, by simp⟩
theorem SeenPut.kq {g n0 : Nat} {m : Int} {V V1 : World} {p : Nat -> TypeId -> Prop} (h : SeenPut g m V V1) (hg : n0 <= g) : Kq n0 (fun k t => p k t /\ k ≠ g) V V1 :=
 ⟨⟨h.grown.os, h.grown.tape, h.grown.output, h.grown.size, fun k hk => h.other k (by omega)⟩, fun k cs t fr hk hp => (h.other k hp.2).trans hk⟩
theorem SeenPut.stay {g k0 : Nat} {m n : Int} {V V1 : World} (h : SeenPut g m V V1) (hg : V.heap[g]? = some (.cells #[.int .i64 n] 3 (0, 0))) : Stay k0 V V1 := fun k o _ hk hc => by
 by_cases e : k = g
 ·subst e;rw [hg] at hk;cases hk
  cases hc
 ·exact (h.other k e).trans hk
structure ChI (W : World) (n0 : Nat) (p : Nat -> TypeId -> Prop) (l c : Nat) (all : Bool) (J : List Sp -> World -> Prop) (m : Nat) (pre : List Sp) (V : World) : Prop where
 j : J (pre.drop (c - 1)) V
 yb : V.heap[W.heap.size]? = some (.cells #[.func (.yield l) #[] #[]] 126 (0, 0))
 sb : V.heap[W.heap.size + 1]? = some (.cells #[.int .i64 (pre.length : Int)] 3 (0, 0))
 q : Kq n0 (fun k t => p k t /\ k ≠ W.heap.size + 1) W V
 a : all = true \/ pre.length < c
 m : m <= V.heap.size
set_option maxRecDepth 100000 in
set_option maxHeartbeats 4000000 in
theorem chosen_seq (n : Nat) (hn : 3 <= n) {w0 w : World} {p : Nat -> TypeId -> Prop} {B1 B2 B3 B4 : Nat} {s : ByteArray} {t : PN} {y : NV} {xs : List Sp} {c : Nat} {all : Bool} (hc : 1 <= c) (hb0 : Below w0.heap.size w0 w) (hy : IsP (fun _ => False) w0 t y) (hD : DebAt w0) (ht : nodT t <= 100000) (hs : s.size <= 1024)
  (h1 : w.heap[B1]? = some (.cells #[.int .i64 y.kind, .int .u64 (y.set 0), .int .u64 (y.set 1), .int .u64 (y.set 2), .int .u64 (y.set 3), .int .i64 y.lo, .int .i64 y.hi, .int .i64 y.num, .slice y.A y.n y.c] 28)) (h2 : w.heap[B2]? = some (.cells #[.string s] 9)) (h3 : w.heap[B3]? = some (.cells #[.int .i64 (c : Int)] 3)) (h4 : w.heap[B4]? = some (.cells #[.bool all] 4)) (p3 : p B3 3) (p4 : p B4 4)
  (pS : ∀ k, w.heap.size <= k -> p k 32 /\ p k 3 /\ p k 34 /\ p k 126 /\ p k 28 /\ p k 9) (hx : MatL s.data.toList t 0 (-1) xs) (hxl : xs.length <= 100000) :
  SeqStopsO Fence.wide n Tryz.prog 62 #[.pointer (some ⟨B1, 0, none⟩), .pointer (some ⟨B2, 0, none⟩), .pointer (some ⟨B3, 0, none⟩), .pointer (some ⟨B4, 0, none⟩)] (fun sp : Sp => #[.agg (spC sp)]) (Kr w0.heap.size p (w.heap.size + 2)) (fun ys => ys = choP c all xs) (fun pre => pre <+: choP c all xs) (fun pre x => (pre ++ [x]) <+: choP c all xs) w := by
 intro l J Jx W hW hJ hJx hY hJ0;have c1 : W.heap[B1]? = some (.cells #[.int .i64 y.kind, .int .u64 (y.set 0), .int .u64 (y.set 1), .int .u64 (y.set 2), .int .u64 (y.set 3), .int .i64 y.lo, .int .i64 y.hi, .int .i64 y.num, .slice y.A y.n y.c] 28) := (hW.block B1 (lts h1)).trans h1;obtain ⟨e0, e1, e2, e3, e4, e5, e6, e7, e8⟩ := node_box c1;have l1 := lts c1;have c2 : W.heap[B2]? = some (.cells #[.string s] 9) := (hW.block B2 (lts h2)).trans h2;have c2' : W.cell? ⟨B2, 0, none⟩ = some (.string s) := obc c2 0;have l2 := lts c2;have hm := fun V => matches_made y s V;simp only [NV.v_eq] at hm;have HM := lh fun (V : World) => (callsIn_wide (n := n - 1)).2 (hm V);have HB := lh (hb0.trans (hW.mono hb0.size));have H3 := lh (show W.heap[B3]? = some (.cells #[.int .i64 (c : Int)] 3) /\ W.heap[B4]? = some (.cells #[.bool all] 4) from ⟨(hW.block B3 (lts h3)).trans h3, (hW.block B4 (lts h4)).trans h4⟩);have HP := lh (aI p3 (aI p4 (aI pS (aI hW.size (aI hc hxl)))));have HT := lh (aI hy (aI hD (aI ht (aI hs hx))));have HY := lh hY;have HJ := lh (aI hJ hJx);have HJ0 := lh hJ0;clear hW hJ hJx hY hJ0 h1 h2 h3 h4 p3 p4 pS hb0 hy hD ht hs hx hxl hc c1 c2 hm;refine callsIn_of_wp_marks Tryz.func62 rfl (wide_fn _) ?_ wide_round;simp only [Tryz.ntmps62, List.size_toArray, List.length_cons, List.length_nil, Nat.reduceAdd, Nat.reduceSub, Array.replicate_succ, Array.replicate_zero, List.push_toArray, List.append_toArray, List.nil_append, List.cons_append];gi_wp2_with (refine ⟨trivial, (fun h => by cases h), ?_⟩; gi_at_call 63; (with_reducible refine (HM.out _).mono ?_); rintro e w3 ⟨rfl, hw3⟩; have HW3 := lh hw3; clear hw3)
 have hw3 := HW3.out;have hs4 : w3.heap.size = W.heap.size + 4 := (by rw [hw3]; simp);have hbw : Below W.heap.size W w3 := (by rw [hw3]; exact ((((Below.refl _ W).alloc (nlr _) _).alloc (by simp) _).alloc (by simp <;> omega) _).alloc (by simp <;> omega) _)
 have yb4 : w3.heap[W.heap.size]? = some (.cells #[.func (.yield l) #[] #[]] 126 (0, 0)) := by
  rw [hw3];exact (heap_alloc_old _ _ _ (by simp <;> omega)).trans ((heap_alloc_old _ _ _ (by simp <;> omega)).trans ((heap_alloc_old _ _ _ (by simp)).trans (heap_alloc_new W _)))
 have sb4 : w3.heap[W.heap.size + 1]? = some (.cells #[.int .i64 0] 3 (0, 0)) := by
  rw [hw3];have h := heap_alloc_new (W.alloc (.cells #[.func (.yield l) #[] #[]] 126)) (.cells #[.int .i64 0] 3);rw [World.size_alloc] at h;exact (heap_alloc_old _ _ _ (by simp <;> omega)).trans ((heap_alloc_old _ _ _ (by simp)).trans h)
 have nb4 : w3.heap[W.heap.size + 2]? = some (.cells #[.int .i64 y.kind, .int .u64 (y.set 0), .int .u64 (y.set 1), .int .u64 (y.set 2), .int .u64 (y.set 3), .int .i64 y.lo, .int .i64 y.hi, .int .i64 y.num, .slice y.A y.n y.c] 28 (0, 0)) := by
  rw [hw3];have h := heap_alloc_new ((W.alloc (.cells #[.func (.yield l) #[] #[]] 126)).alloc (.cells #[.int .i64 0] 3)) (.cells #[.int .i64 y.kind, .int .u64 (y.set 0), .int .u64 (y.set 1), .int .u64 (y.set 2), .int .u64 (y.set 3), .int .i64 y.lo, .int .i64 y.hi, .int .i64 y.num, .slice y.A y.n y.c] 28);rw [World.size_alloc, World.size_alloc] at h;exact (heap_alloc_old _ _ _ (by simp)).trans h
 have tb4 : w3.heap[W.heap.size + 2 + 1]? = some (.cells #[.string s] 9 (0, 0)) := by
  rw [hw3];have h := heap_alloc_new (((W.alloc (.cells #[.func (.yield l) #[] #[]] 126)).alloc (.cells #[.int .i64 0] 3)).alloc (.cells #[.int .i64 y.kind, .int .u64 (y.set 0), .int .u64 (y.set 1), .int .u64 (y.set 2), .int .u64 (y.set 3), .int .i64 y.lo, .int .i64 y.hi, .int .i64 y.num, .slice y.A y.n y.c] 28)) (.cells #[.string s] 9);rw [World.size_alloc, World.size_alloc, World.size_alloc] at h;exact h
 clear hw3;have hP := HP.out;have hseq := matches_seq (n - 1) (w0 := w0) (w := w3) (p := fun k t => p k t /\ k ≠ W.heap.size + 1) (B1 := W.heap.size + 2) (B2 := W.heap.size + 2 + 1) (xs := xs) (HB.out.trans (hbw.mono HB.out.size)) HT.out.1 HT.out.2.1 HT.out.2.2.1 HT.out.2.2.2.1 nb4 tb4 ⟨(hP.2.2.1 _ (by omega)).2.2.2.2.1, by omega⟩ ⟨(hP.2.2.1 _ (by omega)).2.2.2.2.2, by omega⟩ (fun k hk => ⟨(hP.2.2.1 k (by omega)).1, by omega⟩) HT.out.2.2.2.2
 refine range_boxed_far (n := n) (by omega) (gf := 90) (lb := #[.pointer (some ⟨W.heap.size + 2, 0, none⟩), .pointer (some ⟨W.heap.size + 2 + 1, 0, none⟩)]) rfl (enters_of Tryz.func90 (by kernel_rfl) rfl) hseq (Below.refl _ _) (fun _ => rfl)
  (fun h k => Kq.trans h k) (Kq.put (by have := HB.out.size; omega)) (fun V o hV => Kq.of_below (bW V o) (by have := HB.out.size; omega))
  (fun pre V => ChI W w0.heap.size p l c all J w3.heap.size pre V)
  (fun cd pre V => cd = .ret /\ ((all = false /\ pre.length = c /\ J (pre.drop (c - 1)) V) \/ ((all = true \/ pre.length = c) /\ Jx (pre.drop (c - 1)) V)))
  ?hI ?hIx ?h0 (fun x b => { tmps := #[.func (.yield l) #[] #[], .pointer (some ⟨B1, 0, none⟩), .pointer (some ⟨B2, 0, none⟩), .pointer (some ⟨B3, 0, none⟩), .pointer (some ⟨B4, 0, none⟩), .pointer (some ⟨W.heap.size, 0, none⟩), .pointer (some ⟨W.heap.size + 1, 0, none⟩), .pointer (some ⟨b, 0, none⟩), .agg #[.int .i64 y.kind, .int .u64 (y.set 0), .int .u64 (y.set 1), .int .u64 (y.set 2), .int .u64 (y.set 3), .int .i64 y.lo, .int .i64 y.hi, .int .i64 y.num, .slice y.A y.n y.c], .string s, .func (.func 90) #[] #[.pointer (some ⟨W.heap.size + 2, 0, none⟩), .pointer (some ⟨W.heap.size + 2 + 1, 0, none⟩)], .agg (spC x), undef, undef, undef, undef, undef, undef, undef, undef, undef, undef, undef, undef, undef], defers := [] }) (fun x => .cells (spC x) 34) (fun _ => rfl) ?assign ?body ?done ?stop
 case hI =>
  rintro pre A V row h hg hr;have hr2 : ∀ k, row = some k -> ∃ o : Obj, A.heap[k]? = some o /\ o.isCells = false := fun k e => (hr k e).2;refine ⟨HJ.out.1.own _ A V row h.j hg (fun r e => ⟨by have := (hr r e).1; omega, (hr r e).2⟩), grown_cells hg hr2 h.yb, grown_cells hg hr2 h.sb, h.q.trans ⟨⟨hg.os, hg.tape, hg.output, hg.size, fun k hk => hg.block k (by have := h.m; have := HB.out.size; omega) fun e => by have := (hr k e.symm).1; have := HB.out.size; omega⟩, fun k cs t fr hk _ => grown_cells hg hr2 hk⟩, h.a, Nat.le_trans h.m hg.size⟩
 case hIx =>
  rintro cd pre A V row ⟨h0, h⟩ hg hr;have hr3 : ∀ r, row = some r -> W.heap.size <= r /\ ∃ o : Obj, A.heap[r]? = some o /\ o.isCells = false := fun r e => ⟨by have := (hr r e).1; omega, (hr r e).2⟩;rcases h with ⟨a1, a2, a3⟩ | ⟨a1, a2⟩
  ·exact ⟨h0, .inl ⟨a1, a2, HJ.out.1.own _ A V row a3 hg hr3⟩⟩
  ·exact ⟨h0, .inr ⟨a1, HJ.out.2 _ A V row a2 hg hr3⟩⟩
 case h0 => exact ⟨HJ.out.1.own _ W w3 none (by rw [List.drop_nil]; exact HJ0.out) ⟨hbw.os, hbw.tape, hbw.output, hbw.size, fun k hk _ => hbw.block k hk⟩ (fun r e => by cases e), yb4, sb4, Kq.of_below hbw HB.out.size, .inr hP.2.2.2.2.1, nlr _⟩
 case assign =>
  intro l2 x V K hK;gi_wp2_with (refine wpListIn_mat_store_r rfl (.tmp 7) (.tmp 11) rfl x rfl rfl ?_)
  exact hK
 case body =>
  intro l2 pre x b V hI hlen hb hob;have hB3 := lts H3.out.1;have hB4 := lts H3.out.2;have v3 : V.heap[B3]? = some (.cells #[.int .i64 (c : Int)] 3 (0, 0)) := hI.q.2 _ _ _ _ H3.out.1 ⟨HP.out.1, by omega⟩;have v4 : V.heap[B4]? = some (.cells #[.bool all] 4 (0, 0)) := hI.q.2 _ _ _ _ H3.out.2 ⟨HP.out.2.1, by omega⟩;have c5 : V.cell? ⟨W.heap.size + 1, 0, none⟩ = some (.int .i64 (pre.length : Int)) := obc hI.sb 0;have f5 := frozen_of_row V (W.heap.size + 1) 0 _ _ hI.sb;obtain ⟨k, hk⟩ : ∃ k, k = pre.length := ⟨_, rfl⟩;rw [<- hk] at c5
  have hkx : k < xs.length := by
   rw [hk];have := hlen.length_le;simp at this;omega
  have HG := lh hlen;have hi1 : IntKind.i64.wrap ((k : Int) + 1) = ((k + 1 : Nat) : Int) := IntWalk.i64_in _ (by omega);have hi2 : wrap64 ((k : Int) + 1) = ((k + 1 : Nat) : Int) := IntWalk.wrap64_in _ (by omega);obtain ⟨k1, hk1⟩ : ∃ k1, k1 = k + 1 := ⟨_, rfl⟩;rw [<- hk1] at hi1 hi2;obtain ⟨V1, eV1⟩ : ∃ V1, V1 = V.setCell ⟨W.heap.size + 1, 0, none⟩ (.int .i64 (k1 : Int)) := ⟨_, rfl⟩;have hsp : SeenPut (W.heap.size + 1) (k1 : Int) V V1 := (by rw [eV1]; exact seen_put _ hI.sb);have HSP := lh hsp;have HI := lh hI;have HK := lh (aI hk (aI hk1 hkx));have HOB := lh (show V1.heap[b]? = some (.cells (spC x) 34 (0, 0)) from (hsp.other b (by omega)).trans hob);have HV := lh (aI (show V1.heap[B3]? = some (.cells #[.int .i64 (c : Int)] 3 (0, 0)) from (hsp.other B3 (by omega)).trans v3) (show V1.heap[B4]? = some (.cells #[.bool all] 4 (0, 0)) from (hsp.other B4 (by omega)).trans v4));have HY1 := lh (show V1.heap[W.heap.size]? = some (.cells #[.func (.yield l) #[] #[]] 126 (0, 0)) from (hsp.other _ (by omega)).trans hI.yb)
  have HJ1 := lh (show J (pre.drop (c - 1)) V1 from HJ.out.1 _ V V1 (some (W.heap.size + 1)) hI.j hsp.grown fun r e => by
   injection e with e;subst e
   exact ⟨by omega, _, hI.sb, .inr ⟨_, _, rfl⟩⟩)
  have HQ1 := lh (show Kq w0.heap.size (fun k t => p k t /\ k ≠ W.heap.size + 1) V V1 from hsp.kq (by have := HB.out.size; omega));have HST := lh (show Stay w3.heap.size V V1 from hsp.stay hI.sb);clear hI hlen hb hob hB3 hB4 v3 v4 hkx hk hk1 hsp
  gi_upto_region 5 with fail
  rw [<- eV1];have c6 : V1.cell? ⟨W.heap.size + 1, 0, none⟩ = some (.int .i64 (k1 : Int)) := obc HSP.out.same 0;have c3 : V1.cell? ⟨B3, 0, none⟩ = some (.int .i64 (c : Int)) := obc HV.out.1 0;clear eV1 c5 f5 hi1 hi2;by_cases hkc : k1 < c
  ·have d1 : decide ((k1 : Int) < (c : Int)) = true := dqt (by omega);have d1n : decide (k1 < c) = true := dqt hkc;have HKC := lh hkc;clear hkc;gi_wp2_with fail
   have hkp := HK.out;have hkc := HKC.out
   have e1 : (pre ++ [x]).drop (c - 1) = pre.drop (c - 1) := by
    rw [List.drop_eq_nil_of_le (by simp; omega), List.drop_eq_nil_of_le (by omega)]
   have hlen1 : (pre ++ [x]).length = k1 := (by simp; omega);exact ⟨HST.out, HQ1.out, by rw [e1]; exact HJ1.out, HY1.out, by rw [hlen1]; exact HSP.out.same, HI.out.q.trans HQ1.out, .inr (by omega), Nat.le_trans HI.out.m HQ1.out.1.size⟩
  ·have d1 : decide ((k1 : Int) < (c : Int)) = false := dqf (by omega);have d1n : decide (k1 < c) = false := dqf hkc;have hG := HG.out;have hkp := HK.out;have hcp := HP.out.2.2.2.2.1;have hdr : (pre ++ [x]).drop (c - 1) = pre.drop (c - 1) ++ [x] := List.drop_append_of_le_length (by omega)
   have hGo : (pre.drop (c - 1) ++ [x]) <+: choP c all xs := by
    have h1 : (pre.drop (c - 1) ++ [x]) <+: xs.drop (c - 1) := by
     obtain ⟨t, ht⟩ := hG;rw [<- ht, List.drop_append_of_le_length (by simp; omega), hdr];exact List.prefix_append _ _
    unfold choP;split
    ·exact h1
    ·rename_i hall
     have hz : pre.drop (c - 1) = [] := List.drop_eq_nil_of_le (by
      rcases HI.out.a with h | h
      ·exact absurd h hall
      ·omega)
     rw [hz] at h1 ⊢;obtain ⟨t, ht⟩ := h1;rw [<- ht];simp
   have hyy := HY.out (pre.drop (c - 1)) x V1 HJ1.out hGo;obtain ⟨fn, tmps, assign, body, hyr, hR⟩ := hyy
   have hRD := lh (fun m => roundIn_any (m := m) (l2 := l2) (hR.mono (R' := fun e W' => (e = .returned (.bool true) /\ J ((pre ++ [x]).drop (c - 1)) W' /\ Kr w0.heap.size p (w.heap.size + 2) V1 W' /\ W'.cell? ⟨B4, 0, none⟩ = some (.bool all)) \/ (e = .returned (.bool false) /\ Jx ((pre ++ [x]).drop (c - 1)) W' /\ Stay (w.heap.size + 2) V1 W')) (fun e W' h => by
    rw [hdr]
    exact h.imp (fun h => ⟨h.1, h.2.1, h.2.2, obc (h.2.2.1.2 _ _ _ _ HV.out.2 HP.out.2.1) 0⟩) (fun h => ⟨h.1, h.2.1, h.2.2.2⟩))))
   have cy : V1.cell? ⟨W.heap.size, 0, none⟩ = some (.func (.yield l) #[] #[]) := obc HY1.out 0;have HKC := lh (Nat.le_of_not_lt hkc);have hlen1 : (pre ++ [x]).length = k1 := (by simp; omega)
   have HNX := lh (show ∀ w4 : World, all = true -> J ((pre ++ [x]).drop (c - 1)) w4 -> Kr w0.heap.size p (w.heap.size + 2) V1 w4 -> Stay w3.heap.size V w4 /\ Kq w0.heap.size (fun k t => p k t /\ k ≠ W.heap.size + 1) V w4 /\ ChI W w0.heap.size p l c all J w3.heap.size (pre ++ [x]) w4 from fun w4 ha hj hkr => by
    have hk4 : Kq w0.heap.size (fun k t => p k t /\ k ≠ W.heap.size + 1) V1 w4 := ⟨hkr.1.1, fun k cs t fr hk hp => hkr.1.2 k cs t fr hk hp.1⟩;have hpS := HP.out.2.2.1;refine ⟨HST.out.trans (hkr.2.weaken (by have := HP.out.2.2.2.1; omega)), HQ1.out.trans hk4, hj, hkr.1.2 _ _ _ _ HY1.out (hpS _ (by have := HP.out.2.2.2.1; omega)).2.2.2.1, ?_, HI.out.q.trans (HQ1.out.trans hk4), .inl ha, Nat.le_trans HI.out.m (Nat.le_trans HQ1.out.1.size hkr.1.1.size)⟩;rw [hlen1]
    exact hkr.1.2 _ _ _ _ HSP.out.same (hpS _ (by have := HP.out.2.2.2.1; omega)).2.1)
   have HRT := lh (show ∀ w4 : World, all = false -> J ((pre ++ [x]).drop (c - 1)) w4 -> Kr w0.heap.size p (w.heap.size + 2) V1 w4 -> Stay w3.heap.size V w4 /\ (Code.ret = .ret /\ ((all = false /\ (pre ++ [x]).length = c /\ J ((pre ++ [x]).drop (c - 1)) w4) \/ ((all = true \/ (pre ++ [x]).length = c) /\ Jx ((pre ++ [x]).drop (c - 1)) w4))) from fun w4 ha hj hkr =>
    ⟨HST.out.trans (hkr.2.weaken (by have := HP.out.2.2.2.1; omega)), rfl, .inl ⟨ha, by
     rcases HI.out.a with h | h
     ·rw [ha] at h;cases h
     ·omega, hj⟩⟩)
   have HRX := lh (show ∀ w4 : World, Jx ((pre ++ [x]).drop (c - 1)) w4 -> Stay (w.heap.size + 2) V1 w4 -> Stay w3.heap.size V w4 /\ (Code.ret = .ret /\ ((all = false /\ (pre ++ [x]).length = c /\ J ((pre ++ [x]).drop (c - 1)) w4) \/ ((all = true \/ (pre ++ [x]).length = c) /\ Jx ((pre ++ [x]).drop (c - 1)) w4))) from fun w4 hx hst =>
    ⟨HST.out.trans (hst.weaken (by have := HP.out.2.2.2.1; omega)), rfl, .inr ⟨by
     rcases HI.out.a with h | h
     ·exact .inl h
     ·exact .inr (by omega), hx⟩⟩)
   clear hG hkp hcp hdr hGo hR hkc hlen1;gi_wp2_with (first | (refine wpListIn_load_row_r rfl 34 (.tmp 7) rfl b rfl 34 (spC x) (0, 0) _ HOB.out Tryz.underlying34 rfl (by kernel_rfl) ?_) | ((first | refine ⟨(fun h => by cases h), ?_⟩ | refine ⟨trivial, (fun h => by cases h), ?_⟩ | refine ⟨trivial, ?_⟩); (with_reducible refine (hRD.out _).mono ?_); rintro e w4 h; rcases h with ⟨rfl, hj, hkr, b4⟩ | ⟨rfl, hx, hst⟩))
   ·rename_i hq;obtain ⟨h1, h2⟩ := HRT.out w4 (by simpa using hq) hj hkr;exact ⟨h1, rfl, h2.2⟩
   ·rename_i hq;exact HNX.out w4 (by simpa using hq) hj hkr
   ·obtain ⟨h1, h2⟩ := HRX.out w4 hx hst;exact ⟨h1, rfl, h2.2⟩
 case done =>
  intro ys V hS hI hK;have HIV := lh (aI hS (aI hI hK));clear hS hI hK;gi_wp2_with fail
  obtain ⟨hS, hI, hK⟩ := HIV.out;refine ⟨by simp, .inl ⟨_, _, rfl, run_takeDeferred hK, _, results_none rfl _ _ _, ⟨_, rfl⟩, .inl ⟨_, rfl, ?_⟩⟩⟩
  have e1 : choP c all xs = xs.drop (c - 1) := by
   unfold choP;rcases hI.a with h | h
   ·rw [if_pos h]
   ·rw [hS] at h;rw [List.drop_eq_nil_of_le (by omega)];split <;> rfl
  have hj := hI.j;rw [hS] at hj;rw [e1];exact HJ.out.1.own.putObj _ hj (by omega) hK rfl
 case stop =>
  rintro cd pre V hS ⟨rfl, hI⟩ hK;have HIV := lh (aI hS (aI hI hK));clear hS hI hK;gi_wp2_with fail
  obtain ⟨hS, hI, hK⟩ := HIV.out;obtain ⟨t2, ht2⟩ := hS;have hc1 := hP.2.2.2.2.1;rcases hI with ⟨ha, hl, hj⟩ | ⟨ha, hj⟩
  ·refine ⟨by simp, .inl ⟨_, _, rfl, run_takeDeferred hK, _, results_none rfl _ _ _, ⟨_, rfl⟩, .inl ⟨_, rfl, ?_⟩⟩⟩
   have e1 : choP c all xs = pre.drop (c - 1) := by
    unfold choP;rw [if_neg (by rw [ha]; simp), <- ht2, List.drop_append_of_le_length (by omega), List.take_append_of_le_length (by simp; omega), List.take_of_length_le (by simp; omega)]
   rw [e1];exact HJ.out.1.own.putObj _ hj (by omega) hK rfl
  ·refine ⟨by simp, .inl ⟨_, _, rfl, run_takeDeferred hK, _, results_none rfl _ _ _, ⟨_, rfl⟩, .inr ⟨pre.drop (c - 1), ?_, HJ.out.2.putObj _ hj (by omega) hK rfl⟩⟩⟩;unfold choP;split
   ·rw [<- ht2];by_cases hle : c - 1 <= pre.length
    ·rw [List.drop_append_of_le_length hle];exact List.prefix_append _ _
    ·rw [List.drop_eq_nil_of_le (by omega)];exact List.nil_prefix
   ·rename_i hall
    have hl : pre.length = c := by
     rcases ha with h | h
     ·exact absurd h hall
     ·exact h
    rw [<- ht2, List.drop_append_of_le_length (by omega), List.take_append_of_le_length (by simp; omega), List.take_of_length_le (by simp; omega)];exact List.prefix_refl _
end Go.Proofs.YtflkfleihlceeaaGreatDoor

/-
 Package replace's matches as a range takes it: a pattern's matches in a text, in order. Conditions: the tree lies in memory; what a round keeps is all below the start and the closure's boxes.
-/
import Derived.Sort.QuietIn
import Derived.Sort.CutIn
import Derived.Test.YtflkfleihlceeaaGreatDoorR9
namespace Go.Proofs.YtflkfleihlceeaaGreatDoor
open Go.RowKit Go.Deep Go.Shelf

attribute [local go_sem] Oper.semAt_some

theorem wpListIn_mat_store {n : Nat} {ops : Array Oper} {rest : List Oper} {o : Oper} {a : Act} {w : World} {Q : Exit -> Act -> World -> Prop} (hgd : o.guard = none) (x y : Operand) (ho : o.op = .store 34 x y) (sp : Sp) (hx : a.eval x = .pointer (some ⟨w.heap.size, 0, none⟩)) (hy : a.eval y = .agg (spC sp))
  (h : wpListIn Fence.wide n Tryz.prog ops Q rest (a.put o.dst undef) (w.alloc (.cells (spC sp) 34))) : wpListIn Fence.wide n Tryz.prog ops Q (o :: rest) a (w.alloc (.cells #[.int .i64 0, .int .i64 0, .int .i64 0, .int .i64 0, .int .i64 0, .int .i64 0, .int .i64 0, .int .i64 0, .int .i64 0, .int .i64 0, .int .i64 0, .int .i64 0, .int .i64 0, .int .i64 0, .int .i64 0, .int .i64 0, .int .i64 0, .int .i64 0, .int .i64 0, .int .i64 0] 34)) := by
 refine wpListIn_plain hgd fun K hK => ?_;have hr := run_storeVar_row (P := Tryz.prog) _ w.heap.size 34 34 _ (spC sp) (heap_alloc_new w (.cells #[.int .i64 0, .int .i64 0, .int .i64 0, .int .i64 0, .int .i64 0, .int .i64 0, .int .i64 0, .int .i64 0, .int .i64 0, .int .i64 0, .int .i64 0, .int .i64 0, .int .i64 0, .int .i64 0, .int .i64 0, .int .i64 0, .int .i64 0, .int .i64 0, .int .i64 0, .int .i64 0] 34)) (by kernel_rfl) rfl (spC_one sp);rw [World.setRow_alloc_new] at hr
 have hx2 : (execOp a.eval o).run Tryz.prog (w.alloc (.cells #[.int .i64 0, .int .i64 0, .int .i64 0, .int .i64 0, .int .i64 0, .int .i64 0, .int .i64 0, .int .i64 0, .int .i64 0, .int .i64 0, .int .i64 0, .int .i64 0, .int .i64 0, .int .i64 0, .int .i64 0, .int .i64 0, .int .i64 0, .int .i64 0, .int .i64 0, .int .i64 0] 34)) = .ok .skip (w.alloc (.cells (spC sp) 34)) := by
  unfold execOp;simp only [ho, hx, hy, Instr.storeAt, Instr.sureAddr, Sem.run_bind, Sem.run_pure, Result.andThen_ok, hr]
 refine ⟨fun _ _ => trivial, ?_⟩;show o.uponIn _ _ Tryz.prog a K Q ((execOp a.eval o).run Tryz.prog _);rw [hx2];exact hK _ _ h
theorem wpListIn_skip_w {P : Program} {n : Nat} {ops : Array Oper} {rest : List Oper} {o : Oper} {a : Act} {w : World} {Q : Exit -> Act -> World -> Prop} (hw : Region.wanted o (yielded ops a.tmps) = false) (h : wpListIn Fence.wide n P ops Q rest (a.put o.dst undef) w) : wpListIn Fence.wide n P ops Q (o :: rest) a w := by
 refine wpListIn_step fun K hK => ?_;rw [hw];exact ⟨fun _ _ => trivial, hK _ _ h⟩
theorem wpListIn_load_row_g {P : Program} {n : Nat} {ops : Array Oper} {rest : List Oper} {o : Oper} {a : Act} {w : World} {Q : Exit -> Act -> World -> Prop} (hw : Region.wanted o (yielded ops a.tmps) = true) (ty : TypeId) (x : Operand) (ho : o.op = .load ty x)
  (g : Nat) (hx : a.eval x = .pointer (some ⟨g, 0, none⟩)) (t : TypeId) (cs : Array Value) (fr : Nat × Nat) (d : TypeDesc) (hg : w.heap[g]? = some (.cells cs t fr))
  (hu : P.underlying ty = some d) (hd : (match d with | .struct _ | .array _ _ => true | _ => false) = true) (hi : (P.info? ty).map (·.size) = some cs.size)
  (h : wpListIn Fence.wide n P ops Q rest (a.put o.dst (.agg cs)) w) : wpListIn Fence.wide n P ops Q (o :: rest) a w := by
 refine wpListIn_step fun K hK => ?_;rw [hw];have hr := run_load_row (P := P) ty x ho g hx t cs fr d hg hu hd hi;refine ⟨fun _ _ => trivial, ?_⟩;show o.uponIn _ _ P a K Q ((execOp a.eval o).run P w);rw [hr];exact hK _ _ h
theorem below_drew (W : World) (k : Nat) : Below W.heap.size W (W.drewN k) := ⟨rfl, rfl, rfl, nlr _, fun _ _ => rfl⟩
theorem matL_false {T : List UInt8} {t : PN} {fr en : Int} {l : List Sp} {sp : Sp} (h : MatL T t fr en l) (hf : FindR T true t fr false sp) : l = [] := matL_det h (.done hf)
theorem matL_true {T : List UInt8} {t : PN} {fr en : Int} {l : List Sp} {sp : Sp} (h : MatL T t fr en l) (hf : FindR T true t fr true sp) : (en < (sp 0).2 /\ ∃ l', l = sp :: l' /\ MatL T t (max (sp 0).2 ((sp 0).1 + 1)) (sp 0).2 l') \/ (¬ en < (sp 0).2 /\ MatL T t (max (sp 0).2 ((sp 0).1 + 1)) (sp 0).2 l) := by
 cases h with
 | done f2 => have := (findR_det hf f2).1; cases this
 | hit f2 g2 m2 =>
  have e := (findR_det hf f2).2;subst e;exact .inl ⟨g2, _, rfl, m2⟩
 | skip f2 g2 m2 =>
  have e := (findR_det hf f2).2;subst e;exact .inr ⟨g2, m2⟩
def SeqStopsG {α : Type} (F : Fence) (n : Nat) (P : Program) (g : Nat) (lb : Array Value) (encs : α -> Array Value) (Kp : World -> World -> Prop) (S Sp : List α -> Prop) (G : List α -> α -> Prop) (w : World) : Prop :=
 ∀ (l : Nat) (J Jx : List α -> World -> Prop) (W : World), Below w.heap.size w W -> AbidesFrom W.heap.size J -> AbidesFrom W.heap.size Jx ->
  (∀ pre x W1, J pre W1 -> G pre x -> YieldAt F (n - 1) P l (encs x) W1 fun e W' =>
   (e = .returned (.bool true) /\ J (pre ++ [x]) W' /\ Kp W1 W') \/ (e = .returned (.bool false) /\ Jx (pre ++ [x]) W')) ->
  J [] W ->
  CallsIn F n P g (#[.func (.yield l) #[] #[]] ++ lb) W fun e W' => (∃ v, e = .returned v) /\ ((∃ xs, S xs /\ J xs W') \/ (∃ pre, Sp pre /\ Jx pre W'))
set_option maxRecDepth 100000 in
set_option maxHeartbeats 4000000 in
theorem matches_seq (n : Nat) {w0 w : World} {p : Nat -> TypeId -> Prop} {B1 B2 : Nat} {s : ByteArray} {t : PN} {y : NV} {xs : List Sp} (hb0 : Below w0.heap.size w0 w) (hy : IsP (fun _ => False) w0 t y) (hD : DebAt w0) (ht : nodT t <= 100000) (hs : s.size <= 1024)
  (h1 : w.heap[B1]? = some (.cells #[.int .i64 y.kind, .int .u64 (y.set 0), .int .u64 (y.set 1), .int .u64 (y.set 2), .int .u64 (y.set 3), .int .i64 y.lo, .int .i64 y.hi, .int .i64 y.num, .slice y.A y.n y.c] 28)) (h2 : w.heap[B2]? = some (.cells #[.string s] 9)) (p1 : p B1 28) (p2 : p B2 9) (p3 : ∀ k, w.heap.size <= k -> p k 32) (hx : MatL s.data.toList t 0 (-1) xs) :
  SeqStopsG Fence.wide n Tryz.prog 90 #[.pointer (some ⟨B1, 0, none⟩), .pointer (some ⟨B2, 0, none⟩)] (fun sp : Sp => #[.agg (spC sp)]) (Kq w0.heap.size p) (fun ys => ys = xs) (fun pre => pre <+: xs) (fun pre x => (pre ++ [x]) <+: xs) w := by
 intro l J Jx W hW hJ hJx hY hJ0;have HB := lh (hb0.trans (hW.mono hb0.size));have H1 := lh (show W.heap[B1]? = some (.cells #[.int .i64 y.kind, .int .u64 (y.set 0), .int .u64 (y.set 1), .int .u64 (y.set 2), .int .u64 (y.set 3), .int .i64 y.lo, .int .i64 y.hi, .int .i64 y.num, .slice y.A y.n y.c] 28) from (hW.block B1 (lts h1)).trans h1);have H2 := lh (show W.heap[B2]? = some (.cells #[.string s] 9) from (hW.block B2 (lts h2)).trans h2);have HP := lh (show p B1 28 /\ p B2 9 /\ ∀ k, W.heap.size <= k -> p k 32 from ⟨p1, p2, fun k hk => p3 k (Nat.le_trans hW.size hk)⟩);have HT := lh (aI hy (aI hD (aI ht hs)));have HX := lh hx;have HY := lh hY;have HJ := lh hJ;have HJ0 := lh hJ0;clear hW hJ hJx hY hJ0 h1 h2 p1 p2 p3 hb0 hy hD ht hx hs;refine callsIn_of_wp Tryz.func90 rfl (wide_fn _) ?_ wide_round;simp only [Tryz.ntmps90, List.size_toArray, List.length_cons, List.length_nil, Nat.reduceAdd, Nat.reduceSub, Array.replicate_succ, Array.replicate_zero, List.push_toArray, List.append_toArray, List.nil_append, List.cons_append];gi_wp2_with fail
 gi_loopw [4, 5] (fun fv ev wr => ∃ (fr en : Int) (pre rest : List Sp), fv = .int .i64 fr /\ ev = .int .i64 en /\ 0 <= fr /\ fr <= 1025 /\ Hid (pre ++ rest = xs /\ MatL s.data.toList t fr en rest /\ J pre wr /\ Kq w0.heap.size p W wr)) (fun fv _ _ => 1026 - (intOf fv).toNat)
 case atStart => exact ⟨0, -1, [], xs, rfl, rfl, by omega, by omega, lh ⟨rfl, HX.out, HJ0.out, Kq.refl _ _ _⟩⟩
 case round =>
  obtain ⟨fr, en, pre, rest, rfl, rfl, f0, f1, HI⟩ := hrel;have hwb := HB.out.trans HI.out.2.2.2.1;have c1 := HI.out.2.2.2.2 _ _ _ _ H1.out HP.out.1;have c2 : wr.heap[B2]? = some (.cells #[.string s] 9) := HI.out.2.2.2.2 _ _ _ _ H2.out HP.out.2.1;have l2 := lts c2;have c2' : wr.cell? ⟨B2, 0, none⟩ = some (.string s) := obc c2 0;obtain ⟨e0, e1, e2, e3, e4, e5, e6, e7, e8⟩ := node_box c1;have hfi := find_is (w := wr) (s := s) true fr (HT.out.1.stays hwb) (HT.out.2.1.below hwb) HT.out.2.2.1;rw [NV.v_eq] at hfi;have HF := lh ((callsIn_wide (n := n - 1)).2 hfi);have HWB := lh hwb;clear hfi c1 c2 hwb
  gi_upto_region 2 with (first | (refine wpListIn_mat_store rfl (.tmp 6) (.tmp 14) rfl _ rfl rfl ?_) | (refine ⟨trivial, (fun h => by cases h), ?_⟩; gi_at_call 16; (with_reducible refine HF.out.mono ?_); rintro e w3 ⟨sp, ok, rfl, hfr, hbf⟩))
  obtain ⟨W2, eW2⟩ : ∃ W2, W2 = w3.alloc (.cells (spC sp) 34) := ⟨_, rfl⟩;obtain ⟨b, eb⟩ : ∃ b, b = w3.heap.size := ⟨_, rfl⟩;rw [<- eW2, <- eb];have hbw : Below wr.heap.size wr W2 := (by rw [eW2]; exact hbf.trans ((bW w3 _).mono hbf.size));have hob : W2.heap[b]? = some (.cells (spC sp) 34 (0, 0)) := (by rw [eW2, eb]; exact heap_alloc_new w3 _);have HJ2 := lh (abides_below HJ.out HI.out.2.2.1 hbw);have HBW := lh hbw;clear e0 e1 e2 e3 e4 e5 e6 e7 e8 l2 c2' hbf HF eW2 eb hbw;cases ok with
  | false =>
   have hre := matL_false HI.out.2.1 hfr;have HE := lh (show J xs W2 by rw [<- HI.out.1, hre, List.append_nil]; exact HJ2.out);clear hfr hob hre;gi_wp2_with fail
   refine bodyPost_ret (results_none rfl _ _ _) rfl ?_;exact ⟨⟨_, rfl⟩, .inl ⟨_, rfl, HE.out⟩⟩
  | true =>
   obtain ⟨i, z, g0, g1, g2, g3, _⟩ := findR_in hfr;obtain ⟨m0, m1⟩ := mat_box hob g0;have HG := lh (aI g1 (aI g2 (aI g3 hfr)));have HO := lh hob;have hbl := lts hob;clear hfr hob g1 g2 g3;have HEND := lh (show (0 : Int) <= max (z : Int) ((i : Int) + 1) /\ max (z : Int) ((i : Int) + 1) <= 1025 /\ fr < max (z : Int) ((i : Int) + 1) by have := HG.out; have := HT.out.2.2.2; have e : s.data.toList.length = s.size := (by simp); omega);have HG0 := lh g0;have HBS := lh (bW W2 (.cells #[.int .i64 (i : Int), .int .i64 (z : Int)] 32));have HO3 := lh ((HBS.out.block b hbl).trans HO.out);by_cases hen : en < (z : Int)
   ·have d1 : decide (en < (z : Int)) = true := dqt hen
    obtain ⟨h5, rest', hre, hml⟩ : en < (sp 0).2 /\ ∃ l', rest = sp :: l' /\ MatL s.data.toList t (max (sp 0).2 ((sp 0).1 + 1)) (sp 0).2 l' := by
     rcases matL_true HI.out.2.1 HG.out.2.2.2 with h | h
     ·exact h
     ·rw [g0] at h;exact absurd hen h.1
    subst hre;have hyy := HY.out pre sp (W2.alloc (.cells #[.int .i64 (i : Int), .int .i64 (z : Int)] 32)) (abides_below HJ.out HI.out.2.2.1 (HBW.out.trans (HBS.out.mono HBW.out.size))) ⟨rest', by rw [<- HI.out.1]; simp⟩;obtain ⟨fn, tmps, assign, body, hyr, hR⟩ := hyy;have hRD := lh (hR.mono (R' := fun e W' => ∃ ok, e = .returned (.bool ok) /\ (ok = true -> J (pre ++ [sp]) W' /\ Kq w0.heap.size p (W2.alloc (.cells #[.int .i64 (i : Int), .int .i64 (z : Int)] 32)) W') /\ (ok = false -> Jx (pre ++ [sp]) W')) (fun e W' h => h.elim (fun h => ⟨true, h.1, fun _ => h.2, fun h => by cases h⟩) (fun h => ⟨false, h.1, (fun h => by cases h), fun _ => h.2⟩)));have HML := lh hml;clear hR hml h5 g0
    gi_upto_region 5 with (first | (refine wpListIn_load_row_g rfl 34 (.tmp 6) rfl b rfl 34 (spC sp) (0, 0) _ HO3.out Tryz.underlying34 rfl (by kernel_rfl) ?_) | ((first | refine ⟨(fun h => by cases h), ?_⟩ | refine ⟨trivial, (fun h => by cases h), ?_⟩); (with_reducible refine hRD.out.mono ?_); rintro e w4 ⟨ok, rfl, hA⟩))
    ·rename_i hq;have hok : ok = false := (by simpa using hq);have HX4 := lh (hA.2 hok);clear hA hq;refine bodyPost_ret (results_none rfl _ _ _) rfl ?_;exact ⟨⟨_, rfl⟩, .inr ⟨_, ⟨rest', by rw [<- HI.out.1]; simp⟩, HX4.out⟩⟩
    ·rename_i hq;have hok : ok = true := (by simpa using hq);have HJ4 := lh (hA.1 hok);have hsp : (W2.alloc (.cells #[.int .i64 (i : Int), .int .i64 (z : Int)] 32)).heap[W2.heap.size]? = some (.cells #[.int .i64 (i : Int), .int .i64 (z : Int)] 32 (0, 0)) := heap_alloc_new W2 _;have hsp4 := HJ4.out.2.2 _ _ _ _ hsp (HP.out.2.2 _ (Nat.le_trans HI.out.2.2.2.1.size HBW.out.size));have t0 : w4.cell? ⟨W2.heap.size, 0, none⟩ = some (.int .i64 (i : Int)) := (by rw [obc hsp4]; rfl);have t1 : w4.cell? ⟨W2.heap.size, 1, none⟩ = some (.int .i64 (z : Int)) := (by rw [obc hsp4]; rfl);have hi5 : IntKind.i64.wrap ((i : Int) + 1) = (i : Int) + 1 := IntWalk.i64_in _ (by have := HG.out; have := HT.out.2.2.2; have e : s.data.toList.length = s.size := (by simp); omega);have hi6 : wrap64 ((i : Int) + 1) = (i : Int) + 1 := IntWalk.wrap64_in _ (by have := HG.out; have := HT.out.2.2.2; have e : s.data.toList.length = s.size := (by simp); omega);clear hA hq hsp hsp4
     gi_quiet (fail)
     gi_wp2_with fail
     exact ⟨⟨_, _, pre ++ [sp], rest', rfl, rfl, HEND.out.1, HEND.out.2.1, lh ⟨by rw [<- HI.out.1]; simp, by have h := HML.out; rw [HG0.out] at h; exact h, abides_below HJ.out HJ4.out.1 (below_drew w4 nq), (HI.out.2.2.2.trans (Kq.of_below (p := p) (HBW.out.trans (HBS.out.mono HBW.out.size)) HWB.out.size)).trans (HJ4.out.2.trans (Kq.of_below (below_drew w4 nq) (Nat.le_trans (Nat.le_trans HWB.out.size (Nat.le_trans HBW.out.size HBS.out.size)) HJ4.out.2.1.size)))⟩⟩, by simp only [intOf]; have := HEND.out; omega⟩
   ·have d1 : decide (en < (z : Int)) = false := dqf hen
    gi_upto_region 5 with (refine wpListIn_skip_w rfl ?_)
    have hml : MatL s.data.toList t (max (z : Int) ((i : Int) + 1)) (z : Int) rest := by
     rcases matL_true HI.out.2.1 HG.out.2.2.2 with h | h
     ·rw [g0] at h;exact absurd h.1 hen
     ·rw [g0] at h;exact h.2
    have HML := lh hml;have hi5 : IntKind.i64.wrap ((i : Int) + 1) = (i : Int) + 1 := IntWalk.i64_in _ (by have := HG.out; have := HT.out.2.2.2; have e : s.data.toList.length = s.size := (by simp); omega);have hi6 : wrap64 ((i : Int) + 1) = (i : Int) + 1 := IntWalk.wrap64_in _ (by have := HG.out; have := HT.out.2.2.2; have e : s.data.toList.length = s.size := (by simp); omega);have t0 : (W2.alloc (.cells #[.int .i64 (i : Int), .int .i64 (z : Int)] 32)).cell? ⟨W2.heap.size, 0, none⟩ = some (.int .i64 (i : Int)) := (by rw [obc (heap_alloc_new W2 _)]; rfl);have t1 : (W2.alloc (.cells #[.int .i64 (i : Int), .int .i64 (z : Int)] 32)).cell? ⟨W2.heap.size, 1, none⟩ = some (.int .i64 (z : Int)) := (by rw [obc (heap_alloc_new W2 _)]; rfl);have HKE := lh fun (nq : Nat) => HI.out.2.2.2.trans (Kq.of_below (p := p) (HBW.out.trans (HBS.out.mono HBW.out.size)) HWB.out.size);have HJE := lh (abides_below HJ.out HI.out.2.2.1 (HBW.out.trans (HBS.out.mono HBW.out.size)));clear hml
    gi_quiet (fail)
    gi_wp2_with fail
    exact ⟨⟨_, _, pre, rest, rfl, rfl, HEND.out.1, HEND.out.2.1, lh ⟨HI.out.1, HML.out, abides_below HJ.out HJE.out (below_drew _ nq), (HKE.out nq).trans (Kq.of_below (below_drew _ nq) (Nat.le_trans HWB.out.size (Nat.le_trans HBW.out.size HBS.out.size)))⟩⟩, by simp only [intOf]; have := HEND.out; omega⟩
end Go.Proofs.YtflkfleihlceeaaGreatDoor

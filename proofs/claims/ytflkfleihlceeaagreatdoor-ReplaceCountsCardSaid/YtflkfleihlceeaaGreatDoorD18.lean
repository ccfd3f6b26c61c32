import Derived.Test.YtflkfleihlceeaaGreatDoorD17
import Derived.Test.YtflkfleihlceeaaGreatDoorD13
import Derived.Test.YtflkfleihlceeaaGreatDoorD15
import Derived.Test.YtflkfleihlceeaaGreatDoorD24
import Derived.Test.YtflkfleihlceeaaGreatDoorD14
import Derived.Deep.CutBlock
import Derived.Deep.RegionHeld3
import Derived.Laws.EntriesVeiled
/-
 The closures of a node that is about to be numbered are made. Condition: the finder is in memory, the kids are numbered.
-/
namespace Go.Proofs.YtflkfleihlceeaaGreatDoor
open Go.RowKit Go.Deep Go.Sort
def MadeV (S : Nat -> Prop) (P : (Nat -> Prop) -> World -> Value -> Prop) (w : World) (e : Ending) (w' : World) : Prop := ∃ v, e = .returned v /\ Below w.heap.size w w' /\ P S w' v
theorem obj2 {w W : World} {o1 o2 : Obj} (hW : W = (w.alloc o1).alloc o2) : Below w.heap.size w W /\ W.heap.size = w.heap.size + 2 := by
 subst hW;exact ⟨(bW w o1).alloc (by rw [World.size_alloc]; omega) o2, by rw [World.size_alloc, World.size_alloc]⟩
theorem two_made {S : Nat -> Prop} (w : World) (hS : ∀ k, S k -> k < w.heap.size) (cs1 cs2 : Array Value) (t1 t2 : TypeId) :
  Below w.heap.size w ((w.alloc (.cells cs1 t1)).alloc (.cells cs2 t2)) /\ BoxO S ((w.alloc (.cells cs1 t1)).alloc (.cells cs2 t2)) w.heap.size cs1 t1 /\ BoxO S ((w.alloc (.cells cs1 t1)).alloc (.cells cs2 t2)) (w.heap.size + 1) cs2 t2 := by
 refine ⟨(obj2 rfl).1, ⟨old_obj' (heap_alloc_new w _) _, fun h => ?_⟩, ⟨?_, fun h => ?_⟩⟩
 ·have := hS _ h; omega
 ·have := heap_alloc_new (w.alloc (.cells cs1 t1)) (.cells cs2 t2);rw [World.size_alloc] at this;exact this
 ·have := hS _ h; omega
set_option maxRecDepth 100000 in
theorem one_made {S : Nat -> Prop} {w : World} (hS : ∀ k, S k -> k < w.heap.size) (fb : Nat) (T : Nat -> Nat) : Calls Tryz.prog 69 #[ptrV fb, setV T] w (MadeV S (fun S w v => OneV S w fb T v) w) := by
 have HP := lh (two_made w hS #[ptrV fb] (setA T) 62 25);unfold setV;unfold setA at HP;clear hS;go_enter Tryz.func69, Tryz.ntmps69;go_wp2_with fail;refine bodyPost_ret (v := funV 92 #[ptrV w.heap.size, ptrV (w.heap.size + 1)]) (by simp [results, Tryz.results69, go_sem]) rfl ⟨_, rfl, HP.out.1, _, _, rfl, HP.out.2.1, HP.out.2.2⟩
set_option maxRecDepth 100000 in
theorem row_made {S : Nat -> Prop} {w : World} (hS : ∀ k, S k -> k < w.heap.size) (fb : Nat) (nds : List ND) (d : ND) (hk : d.x.kind = 2) : Calls Tryz.prog 72 #[ptrV fb, .agg d.bare] w (MadeV S (fun S w v => FlowV S w fb nds d v) w) := by
 have HP := lh (two_made w hS #[ptrV fb] d.bare 62 106);have HK := lh hk;generalize hb : d.bare = B at HP ⊢;unfold ND.bare at hb;subst hb;clear hS hk;go_enter Tryz.func72, Tryz.ntmps72;go_wp2_with fail;refine bodyPost_ret (v := funV 95 #[ptrV (w.heap.size + 1), ptrV w.heap.size]) (by simp [results, Tryz.results72, go_sem]) rfl ⟨_, rfl, HP.out.1, .row HK.out HP.out.2.2 HP.out.2.1⟩
set_option maxRecDepth 100000 in
theorem alt_made {S : Nat -> Prop} {w : World} (hS : ∀ k, S k -> k < w.heap.size) (fb : Nat) (nds : List ND) (d : ND) (hk : d.x.kind = 3) : Calls Tryz.prog 73 #[ptrV fb, .agg d.bare] w (MadeV S (fun S w v => FlowV S w fb nds d v) w) := by
 have HP := lh (two_made w hS #[ptrV fb] d.bare 62 106);have HK := lh hk;generalize hb : d.bare = B at HP ⊢;unfold ND.bare at hb;subst hb;clear hS hk;go_enter Tryz.func73, Tryz.ntmps73;go_wp2_with fail;refine bodyPost_ret (v := funV 96 #[ptrV (w.heap.size + 1), ptrV w.heap.size]) (by simp [results, Tryz.results73, go_sem]) rfl ⟨_, rfl, HP.out.1, .alt HK.out HP.out.2.2 HP.out.2.1⟩
def StepK (fb : Nat) (F : FN) (k : Nat) : Prop := ∀ (S S2 : Nat -> Prop) (w : World) (L : Nat) (d : ND), FindAt S w fb F L -> F.nds[k]? = some d -> (∀ j, S2 j -> j < w.heap.size) -> Calls Tryz.prog 100 #[ptrV fb, .int .i64 (k : Int)] w (MadeV S2 (fun S w v => StepV S w fb F.nds k v) w)
theorem flow_form {S : Nat -> Prop} {w : World} {fb : Nat} {nds : List ND} {d : ND} {v : Value} (h : FlowV S w fb nds d v) : ∃ fid bs, v = .func (.func fid) #[] bs := by cases h <;> exact ⟨_, _, rfl⟩
def ND.arr (d : ND) : Array Value := d.cells.toArray
theorem get_arr (d : ND) (j : Nat) : d.arr[j]? = d.cells[j]? := by simp [ND.arr]
structure StpB (w : World) (fb k : Nat) (d : ND) (wx : World) (b : Nat) : Prop where
 bel : Below w.heap.size w wx
 o2 : wx.heap[w.heap.size]? = some (.cells #[ptrV fb] 62 (0, 0))
 o3 : wx.heap[w.heap.size + 1]? = some (.cells #[.int .i64 (k : Int)] 3 (0, 0))
 o5 : wx.heap[b]? = some (.cells d.arr 106 (0, 0))
set_option maxRecDepth 100000 in
set_option maxHeartbeats 1000000 in
theorem step_made {fb : Nat} {F : FN} (k : Nat) : StepK fb F k := by
 induction k using Nat.strongRecOn with
 | _ k ih =>
  intro S S2 w L d h hd hS2;obtain ⟨gn, on, hA, hgn, _, _⟩ := h.cell hd;have hklt := (List.getElem?_eq_some_iff.1 hd).1;obtain ⟨W, hW⟩ : ∃ W, W = (w.alloc (.cells #[ptrV fb] 62)).alloc (.cells #[.int .i64 (k : Int)] 3) := ⟨_, rfl⟩;have htm := two_made w hS2 #[ptrV fb] #[.int .i64 (k : Int)] 62 3;rw [<- hW] at htm;have HT := lh htm;have hbW := (obj2 hW).1;have hsW := (obj2 hW).2
  have HF := lh fun (V : World) (hV : Below W.heap.size W V) => (show V.cell? ⟨w.heap.size, 0, none⟩ = some (ptrV fb) /\ V.cell? ⟨w.heap.size + 1, 0, none⟩ = some (.int .i64 (k : Int)) /\ V.cell? ⟨fb, 3, none⟩ = some (.slice (some ⟨gn, on, none⟩) F.nds.length F.c) /\ ∀ (j : Nat) (v : Value), d.cells[j]? = some v -> V.cell? ⟨gn, on + k * 13 + j, none⟩ = some v by
   have hbV : Below w.heap.size w V := hbW.trans (hV.mono hbW.size);have hh := h.below hbV;obtain ⟨g', o', hA', _, _, hc⟩ := hh.cell hd;rw [hA] at hA';cases hA'
   have o1 := bobj hV HT.out.2.1.1 (by omega);have o2 := bobj hV HT.out.2.2.1 (by omega)
   exact ⟨by rw [obc o1]; rfl, by rw [obc o2]; rfl, by rw [hh.f3, hA], hc⟩)
  have HH := lh h;have HS2 := lh hS2;have HBW := lh (aI hbW hsW);have HD := lh hd;have HIH := lh fun (q : Nat) (hq : q < k) (V : World) (hV : Below w.heap.size w V) (d' : ND) (hd' : F.nds[q]? = some d') => ih q hq S S2 V L d' (h.below hV) hd' fun j hj => Nat.lt_of_lt_of_le (hS2 j hj) hV.size;have HG := lh fun (h5 : d.x.kind = 5) => h.grp0 hd h5;have HKD := lh fun (V : World) (hV : Below w.heap.size w V) => ((h.below hV).mem k d hd).kids;obtain ⟨fid, bs, hfn⟩ := flow_form (h.mem k d hd).flow;have HFN := lh hfn;obtain ⟨n, hn⟩ : ∃ n, n = F.nds.length := ⟨_, rfl⟩;rw [<- hn] at HF hklt;have hk0 : (0 : Int) <= (k : Int) := (by omega);have hkI : (k : Int) < (n : Int) := (by omega);clear hn hd h ih htm hA hfn hbW hsW hS2;go_enter Tryz.func100, Tryz.ntmps100;go_upto_region 1 with fail;rw [<- hW];clear hW;go_cut [5] from 6 to 12 (fun t5 wx => ∃ b : Nat, t5 = ptrV b /\ Hid (StpB w fb k d wx b))
  case first =>
   obtain ⟨c0, c1, c3, hcn⟩ := HF.out W.drew (bD W 1);refine wp_region_heads (fun wx => wx.cell? ⟨w.heap.size, 0, none⟩ = some (ptrV fb) /\ wx.cell? ⟨w.heap.size + 1, 0, none⟩ = some (.int .i64 (k : Int)) /\ wx.cell? ⟨fb, 3, none⟩ = some (.slice (some ⟨gn, on, none⟩) n F.c) /\ ∀ (j : Nat) (v : Value), d.cells[j]? = some v -> wx.cell? ⟨gn, on + k * 13 + j, none⟩ = some v) [0, 1, 2, 3, 4, 5, 6] [7, 8] [8] (by kernel_rfl) (by kernel_rfl) (by kernel_rfl) (fun c a d v w h => hq_body (P := Tryz.prog) (fn := Tryz.f100) c a d v w h) (by kernel_rfl) ⟨c0, c1, c3, hcn⟩ ?_
   iterate 7
    refine heads_step (v := ?_) rfl (by rfl) (fun wx hSw => ?_) ?_;rotate_left
    ·obtain ⟨u0, u1, u3, un⟩ := hSw;have z0 := un 0 _ rfl;have z1 := un 1 _ rfl;have z2 := un 2 _ rfl;have z3 := un 3 _ rfl;have z4 := un 4 _ rfl;have z5 := un 5 _ rfl;have z6 := un 6 _ rfl;have z7 := un 7 _ rfl;have z8 := un 8 _ rfl;have z9 := un 9 _ rfl;have z10 := un 10 _ rfl;have z11 := un 11 _ rfl;have z12 := un 12 _ rfl;rw [Nat.add_zero] at z0;rw [HFN.out] at z12;clear un;go_simp;try with_reducible rfl
    simp only [Act.put, List.setIfInBounds_toArray]
   refine heads_end ?_;refine tail_step rfl (fun K hK => ?_);go_simp;refine hK _ _ ⟨fun _ => HF.out _ ((bD W 1).alloc (nlr _) _), ?_⟩;clear hK K;try simp only [Act.put, List.setIfInBounds_toArray, List.set_cons_zero, List.set_cons_succ]
   refine tail_step rfl (fun K hK => ?_);go_simp;refine hK _ _ ⟨fun h => by simp at h, ?_⟩;clear hK K;try simp only [Act.put, List.setIfInBounds_toArray, List.set_cons_zero, List.set_cons_succ]
   refine tail_end ?_;go_wp2_with fail;go_meet
   case rel =>
    refine ⟨_, rfl, lh ⟨HBW.out.1.trans (((bD W 1).alloc (nlr _) _).mono HBW.out.1.size), ?_, ?_, ?_⟩⟩
    ·exact bobj ((bD W 1).alloc (nlr _) _) HT.out.2.1.1 (by have := HBW.out.2; omega)
    ·exact bobj ((bD W 1).alloc (nlr _) _) HT.out.2.2.1 (by have := HBW.out.2; omega)
    ·unfold ND.arr ND.cells;rw [HFN.out];exact heap_alloc_new W _
  obtain ⟨b, rfl, HB⟩ := hcut;have hob := HB.out.o5;have k0 : wc.cell? ⟨b, 0, none⟩ = some (.int .i64 d.x.kind) := (by rw [obc hob, get_arr]; rfl);have k1 : wc.cell? ⟨b, 1, none⟩ = some (.int .u64 (d.x.set 0)) := (by rw [obc hob, get_arr]; rfl);have k2 : wc.cell? ⟨b, 2, none⟩ = some (.int .u64 (d.x.set 1)) := (by rw [obc hob, get_arr]; rfl);have k3 : wc.cell? ⟨b, 3, none⟩ = some (.int .u64 (d.x.set 2)) := (by rw [obc hob, get_arr]; rfl);have k4 : wc.cell? ⟨b, 4, none⟩ = some (.int .u64 (d.x.set 3)) := (by rw [obc hob, get_arr]; rfl);have c2 : wc.cell? ⟨w.heap.size, 0, none⟩ = some (ptrV fb) := (by rw [obc HB.out.o2]; rfl);have hbl := lts hob;have HS := lh fun (V : World) (hV : Below w.heap.size w V) => (show ∀ j, S2 j -> j < V.heap.size from fun j hj => Nat.lt_of_lt_of_le (HS2.out j hj) hV.size);by_cases h1 : d.x.kind = 1
  ·have h1b : (d.x.kind == 1) = true := (by simpa using h1);have HO := lh (one_made (S := S2) (w := wc) (HS.out wc HB.out.bel) fb d.x.set);unfold setV at HO;have HK := lh h1;clear hob h1;go_wp2_with fail;go_at_call 69;with_reducible refine HO.out.mono ?_
   rintro e w1 ⟨v, rfl, hb1, hv⟩;have HP := lh (show MadeV S2 (fun S w v => StepV S w fb F.nds k v) w (.returned v) w1 from ⟨v, rfl, HB.out.bel.trans (hb1.mono HB.out.bel.size), .one HD.out HK.out hv⟩);clear hb1 hv;go_wp2_with fail;refine bodyPost_ret (v := v) (by simp [results, Tryz.results100, go_sem]) rfl HP.out
  have h1b : (d.x.kind == 1) = false := (by simpa using h1);by_cases h5 : d.x.kind = 5
  ·have h5b : (d.x.kind == 5) = true := (by simpa using h5);obtain ⟨q, d', e1, e2, e3, e4⟩ := HG.out h5;obtain ⟨gk, ok, hkA, hgk, hck⟩ := (HKD.out wc HB.out.bel).cell (intsV_at e1);rw [Nat.add_zero] at hck;have k9 : wc.cell? ⟨b, 9, none⟩ = some (.slice d.kA d.ks.length d.kc) := (by rw [obc hob, get_arr]; rfl);rw [hkA] at k9;obtain ⟨nk, hnk⟩ : ∃ n, n = d.ks.length := ⟨_, rfl⟩;have hnk0 : 0 < nk := (by rw [hnk]; exact (List.getElem?_eq_some_iff.1 e1).1);rw [<- hnk] at k9;have hnkI : (0 : Int) < (nk : Int) := (by omega);have HI := lh (HIH.out q e2 wc.drew (HB.out.bel.trans ((bD wc 1).mono HB.out.bel.size)) d' e3);have HX := lh fun (v : Value) (w1 : World) (hv : StepV S2 w1 fb F.nds q v) => StepV.grp HD.out h5 e1 hv;clear hnk e1 e2 e3 e4 h5 h1 hob hkA;go_wp2_with fail;refine wp_region_heads (fun wx => wx.cell? ⟨w.heap.size, 0, none⟩ = some (ptrV fb) /\ wx.cell? ⟨b, 9, none⟩ = some (.slice (some ⟨gk, ok, none⟩) nk d.kc) /\ wx.cell? ⟨gk, ok, none⟩ = some (.int .i64 (q : Int))) [0, 1, 2, 3, 4] [5, 6] [5, 6] (by kernel_rfl) (by kernel_rfl) (by kernel_rfl) (fun c a d v w h => hq_body (P := Tryz.prog) (fn := Tryz.f100) c a d v w h) (by kernel_rfl) ⟨c2, k9, hck⟩ ?_
   iterate 5
    refine heads_step (v := ?_) rfl (by rfl) (fun wx hSw => ?_) ?_;rotate_left
    ·obtain ⟨u0, u1, u2⟩ := hSw;go_simp;try with_reducible rfl
    simp only [Act.put, List.setIfInBounds_toArray]
   refine heads_end ?_;refine tail_step rfl (fun K hK => ?_);go_simp;refine HI.out.mono ?_;rintro e w1 ⟨v, rfl, hb1, hv⟩;have HP := lh (show MadeV S2 (fun S w v => StepV S w fb F.nds k v) w (.returned v) w1 from ⟨v, rfl, HB.out.bel.trans (((bD wc 1).trans hb1).mono HB.out.bel.size), HX.out v w1 hv⟩);refine hK _ _ ⟨fun h => by simp at h, ?_⟩;clear hK K hb1 hv;try simp only [Act.put, List.setIfInBounds_toArray, List.set_cons_zero, List.set_cons_succ]
   refine tail_step rfl (fun K hK => ?_);go_simp;refine hK _ _ ⟨fun h => by simp at h, ?_⟩;clear hK K;try simp only [Act.put, List.setIfInBounds_toArray, List.set_cons_zero, List.set_cons_succ]
   refine tail_end ?_;go_wp2_with fail;refine bodyPost_ret (v := v) (by simp [results, Tryz.results100, go_sem]) rfl HP.out
  ·have h5b : (d.x.kind == 5) = false := (by simpa using h5);have HP := lh (show MadeV S2 (fun S w v => StepV S w fb F.nds k v) w (.returned (funV 118 #[ptrV w.heap.size, ptrV (w.heap.size + 1)])) wc from ⟨_, rfl, HB.out.bel, .oth HD.out h1 h5 ⟨HB.out.o2, fun hs => by have := HS2.out _ hs; omega⟩ ⟨HB.out.o3, fun hs => by have := HS2.out _ hs; omega⟩⟩);clear hob h1 h5;go_wp2_with fail;refine bodyPost_ret (v := funV 118 #[ptrV w.heap.size, ptrV (w.heap.size + 1)]) (by simp [results, Tryz.results100, go_sem]) rfl HP.out
open Go.RowKit Go.Deep Go.Sort
structure RepX (w : World) (fb q l : Nat) (d : ND) (wx : World) (b5 b6 : Nat) : Prop where
 bel : Below w.heap.size w wx
 o2 : wx.heap[w.heap.size]? = some (.cells #[ptrV fb] 62 (0, 0))
 o3 : wx.heap[w.heap.size + 1]? = some (.cells d.bare 106 (0, 0))
 o5 : wx.heap[b5]? = some (.cells #[.int .i64 (q : Int)] 3 (0, 0))
 o6 : wx.heap[b6]? = some (.cells #[.int .i64 (l : Int)] 3 (0, 0))
 n5 : w.heap.size <= b5
 n6 : w.heap.size <= b6
structure RJ (l : Array Bool) (W : World) (q lv : Nat) (x5 x6 x14 : Value) (w' : World) : Prop where
 bel : Below W.heap.size W w'
 c6 : l.getD 6 false = true -> x14 = .int .i64 (lv : Int)
 c7 : l.getD 7 false = true -> ∃ b, x5 = ptrV b /\ W.heap.size <= b /\ w'.heap[b]? = some (.cells #[.int .i64 (if l.getD 9 false = true then (q : Int) else 0)] 3 (0, 0))
 c8 : l.getD 8 false = true -> ∃ b, x6 = ptrV b /\ W.heap.size <= b /\ w'.heap[b]? = some (.cells #[.int .i64 (if l.getD 10 false = true then (lv : Int) else 0)] 3 (0, 0))
 ne : l.getD 7 false = true -> l.getD 8 false = true -> x5 ≠ x6
 d9 : l.getD 9 false = true -> l.getD 7 false = true
 d10 : l.getD 10 false = true -> l.getD 8 false = true
 hd : ∀ i, i < 6 -> l.getD i false = true
theorem gs (l : Array Bool) {i j : Nat} (h : i ≠ j) : (l.setIfInBounds i true).getD j false = l.getD j false := getD_set_ne false h
theorem gt (l : Array Bool) {i : Nat} (h : i < l.size) : (l.setIfInBounds i true).getD i false = true := by simp [h]
theorem RJ.op6 {l : Array Bool} {W w' w'' : World} {q lv : Nat} {x5 x6 x14 : Value} (h : RJ l W q lv x5 x6 x14 w') (hb : Below w'.heap.size w' w'') : RJ (l.setIfInBounds 6 true) W q lv x5 x6 (.int .i64 (lv : Int)) w'' := by
 refine ⟨h.bel.trans (hb.mono h.bel.size), fun _ => rfl, fun h7 => ?_, fun h8 => ?_, fun h7 h8 => ?_, fun h9 => ?_, fun h9 => ?_, fun i hi => getD_set_true (h.hd i hi)⟩
 ·rw [gs l (by decide)] at h7 ⊢;obtain ⟨b, e, h1, h2⟩ := h.c7 h7;exact ⟨b, e, h1, bobj hb h2 (lts h2)⟩
 ·rw [gs l (by decide)] at h8 ⊢;obtain ⟨b, e, h1, h2⟩ := h.c8 h8;exact ⟨b, e, h1, bobj hb h2 (lts h2)⟩
 ·rw [gs l (by decide)] at h7 h8;exact h.ne h7 h8
 ·rw [gs l (by decide)] at h9 ⊢;exact h.d9 h9
 ·rw [gs l (by decide)] at h9 ⊢;exact h.d10 h9
theorem RJ.op7 {l : Array Bool} {W w' : World} {q lv : Nat} {x5 x6 x14 : Value} (h : RJ l W q lv x5 x6 x14 w') (h7 : l.getD 7 false = false) : RJ (l.setIfInBounds 7 true) W q lv (ptrV w'.heap.size) x6 x14 (w'.alloc (.cells #[.int .i64 0] 3)) := by
 have h9 : l.getD 9 false = false := by
  cases e : l.getD 9 false with
  | false => rfl
  | true => rw [h.d9 e] at h7; cases h7
 refine ⟨h.bel.alloc h.bel.size _, fun h6 => ?_, fun _ => ?_, fun h8 => ?_, fun _ h8 => ?_, fun e => ?_, fun e => ?_, fun i hi => getD_set_true (h.hd i hi)⟩
 ·rw [gs l (by decide)] at h6;exact h.c6 h6
 ·rw [gs l (by decide), h9];exact ⟨_, rfl, h.bel.size, heap_alloc_new w' _⟩
 ·rw [gs l (by decide)] at h8 ⊢;obtain ⟨b, e, h1, h2⟩ := h.c8 h8;exact ⟨b, e, h1, bobj (bW w' _) h2 (lts h2)⟩
 ·rw [gs l (by decide)] at h8;obtain ⟨b, e, h1, h2⟩ := h.c8 h8;have := lts h2;rw [e];intro e2;simp only [Value.pointer.injEq, Option.some.injEq, Addr.mk.injEq, and_true] at e2;omega
 ·rw [gs l (by decide), h9] at e;cases e
 ·rw [gs l (by decide)] at e ⊢;exact h.d10 e
theorem RJ.op8 {l : Array Bool} {W w' : World} {q lv : Nat} {x5 x6 x14 : Value} (h : RJ l W q lv x5 x6 x14 w') (h8 : l.getD 8 false = false) : RJ (l.setIfInBounds 8 true) W q lv x5 (ptrV w'.heap.size) x14 (w'.alloc (.cells #[.int .i64 0] 3)) := by
 have h9 : l.getD 10 false = false := by
  cases e : l.getD 10 false with
  | false => rfl
  | true => rw [h.d10 e] at h8; cases h8
 refine ⟨h.bel.alloc h.bel.size _, fun h6 => ?_, fun h7 => ?_, fun _ => ?_, fun h7 _ => ?_, fun e => ?_, fun e => ?_, fun i hi => getD_set_true (h.hd i hi)⟩
 ·rw [gs l (by decide)] at h6;exact h.c6 h6
 ·rw [gs l (by decide)] at h7 ⊢;obtain ⟨b, e, h1, h2⟩ := h.c7 h7;exact ⟨b, e, h1, bobj (bW w' _) h2 (lts h2)⟩
 ·rw [gs l (by decide), h9];exact ⟨_, rfl, h.bel.size, heap_alloc_new w' _⟩
 ·rw [gs l (by decide)] at h7;obtain ⟨b, e, h1, h2⟩ := h.c7 h7;have := lts h2;rw [e];intro e2;simp only [Value.pointer.injEq, Option.some.injEq, Addr.mk.injEq, and_true] at e2;omega
 ·rw [gs l (by decide)] at e ⊢;exact h.d9 e
 ·rw [gs l (by decide), h9] at e;cases e
theorem put_one {w : World} {b : Nat} {u u' : Value} {T : TypeId} (h : w.heap[b]? = some (.cells #[u] T (0, 0))) : (w.setCell ⟨b, 0, none⟩ u').heap[b]? = some (.cells #[u'] T (0, 0)) /\ Turned (· = b) w (w.setCell ⟨b, 0, none⟩ u') := by
 refine ⟨?_, (Turned.refl (· = b) w).put' rfl 0 u'⟩;rw [set_obj h 0 u'];rfl
theorem RJ.op9 {l : Array Bool} {W w' : World} {q lv b : Nat} {x6 x14 : Value} (h : RJ l W q lv (ptrV b) x6 x14 w') (h7 : l.getD 7 false = true) (hs : l.size = 11) : RJ (l.setIfInBounds 9 true) W q lv (ptrV b) x6 x14 (w'.setCell ⟨b, 0, none⟩ (.int .i64 (q : Int))) := by
 obtain ⟨b', e, h1, h2⟩ := h.c7 h7;cases e
 obtain ⟨p1, p2⟩ := put_one (u' := .int .i64 (q : Int)) h2;refine ⟨h.bel.trans (p2.to_below h.bel.size fun k hk => by omega), fun h6 => ?_, fun _ => ?_, fun h8 => ?_, fun h7 h8 => ?_, fun e => ?_, fun e => ?_, fun i hi => getD_set_true (h.hd i hi)⟩
 ·rw [gs l (by decide)] at h6;exact h.c6 h6
 ·rw [gt l (by omega)];exact ⟨b, rfl, h1, p1⟩
 ·rw [gs l (by decide)] at h8 ⊢;obtain ⟨b2, e, h3, h4⟩ := h.c8 h8;refine ⟨b2, e, h3, p2.obj h4 fun e2 => h.ne h7 h8 ?_⟩;rw [e, e2]
 ·rw [gs l (by decide)] at h7 h8;exact h.ne h7 h8
 ·rw [gs l (by decide)];exact h7
 ·rw [gs l (by decide)] at e ⊢;exact h.d10 e
theorem RJ.op10 {l : Array Bool} {W w' : World} {q lv b : Nat} {x5 x14 : Value} (h : RJ l W q lv x5 (ptrV b) x14 w') (h8 : l.getD 8 false = true) (hs : l.size = 11) : RJ (l.setIfInBounds 10 true) W q lv x5 (ptrV b) x14 (w'.setCell ⟨b, 0, none⟩ (.int .i64 (lv : Int))) := by
 obtain ⟨b', e, h1, h2⟩ := h.c8 h8;cases e
 obtain ⟨p1, p2⟩ := put_one (u' := .int .i64 (lv : Int)) h2;refine ⟨h.bel.trans (p2.to_below h.bel.size fun k hk => by omega), fun h6 => ?_, fun h7 => ?_, fun _ => ?_, fun h7 h8 => ?_, fun e => ?_, fun e => ?_, fun i hi => getD_set_true (h.hd i hi)⟩
 ·rw [gs l (by decide)] at h6;exact h.c6 h6
 ·rw [gs l (by decide)] at h7 ⊢;obtain ⟨b2, e, h3, h4⟩ := h.c7 h7;refine ⟨b2, e, h3, p2.obj h4 fun e2 => h.ne h7 h8 ?_⟩;rw [e, e2]
 ·rw [gt l (by omega)];exact ⟨b, rfl, h1, p1⟩
 ·rw [gs l (by decide)] at h7 h8;exact h.ne h7 h8
 ·rw [gs l (by decide)] at e ⊢;exact h.d9 e
 ·rw [gs l (by decide)];exact h8
set_option maxRecDepth 100000 in
set_option maxHeartbeats 1000000 in
theorem rep_made {S S2 : Nat -> Prop} {w : World} {fb L : Nat} {F : FN} (h : FindAt S w fb F L) {d d' : ND} {q : Nat} (hkd : d.x.kind = 4) (hk : OffAt S w d.kA (intsV d.ks)) (hq : d.ks[0]? = some q) (hd : F.nds[q]? = some d') (hS2 : ∀ k, S2 k -> k < w.heap.size) : Calls Tryz.prog 75 #[ptrV fb, .agg d.bare] w (MadeV S2 (fun S w v => FlowV S w fb F.nds d v) w) := by
 obtain ⟨gk, ok, hkA, hgk, hck⟩ := hk.cell (intsV_at hq);rw [Nat.add_zero] at hck;obtain ⟨W, hW⟩ : ∃ W, W = (w.alloc (.cells #[ptrV fb] 62)).alloc (.cells d.bare 106) := ⟨_, rfl⟩;have htm := two_made w hS2 #[ptrV fb] d.bare 62 106;rw [<- hW] at htm;have hbW := (obj2 hW).1;have hsW := (obj2 hW).2;have HBW := lh (aI hbW hsW);have HT := lh htm;have HLS := lh fun (V : World) (hV : Below W.heap.size W V) => (least_is (d := d) (h.below (hbW.trans (hV.mono hbW.size))) (hk.stays (hbW.trans (hV.mono hbW.size))) hq hd)
 have HF := lh fun (V : World) (hV : Below W.heap.size W V) => (show V.heap[w.heap.size]? = some (.cells #[ptrV fb] 62 (0, 0)) /\ V.heap[w.heap.size + 1]? = some (.cells d.bare 106 (0, 0)) /\ V.cell? ⟨gk, ok, none⟩ = some (.int .i64 (q : Int)) from
  ⟨bobj hV htm.2.1.1 (by omega), bobj hV htm.2.2.1 (by omega), by
   rw [World.cell?_of_block ((hbW.trans (hV.mono hbW.size)).block gk hgk)]
   exact hck⟩)
 have HISP := lh fun (V : World) (hV : Below w.heap.size w V) => (isSpread_is (h.below hV) hd);have HST := lh fun (V : World) (hV : Below w.heap.size w V) => (step_made (fb := fb) (F := F) q S S2 V L d' (h.below hV) hd fun k hk => Nat.lt_of_lt_of_le (hS2 k hk) hV.size);have HH := lh (aI hS2 (aI hq (aI hd hkd)));have hnk0 : 0 < d.ks.length := (List.getElem?_eq_some_iff.1 hq).1;have hb : d.bare = d.bare := rfl;generalize hbb : d.bare = B at hW htm HLS hb ⊢;unfold ND.bare at hbb;rw [hkA] at hbb;obtain ⟨nk, hnk⟩ : ∃ n, n = d.ks.length := ⟨_, rfl⟩;rw [<- hnk] at hbb hnk0;have HB := lh (show d.bare = B by unfold ND.bare; rw [hkA, <- hnk]; exact hbb);have hnkI : (0 : Int) < (nk : Int) := (by omega);obtain ⟨l, hl⟩ : ∃ l, l = leastOf d.x.lo d'.e := ⟨_, rfl⟩;rw [<- hl] at HLS;have HL := lh hl;subst hbb;clear hnk h hk hq hd hS2 hkd htm hbW hsW hb hl hgk hck;go_enter Tryz.func75, Tryz.ntmps75;go_upto_region 1 with fail;rw [<- hW];clear hW;go_cut [5, 6] from 8 to 14 (fun t5 t6 wx => ∃ b5 b6 : Nat, t5 = ptrV b5 /\ t6 = ptrV b6 /\ Hid (RepX w fb q l d wx b5 b6))
 case first =>
  have HC := lh fun (V : World) (hV : Below W.heap.size W V) => (show V.cell? ⟨w.heap.size, 0, none⟩ = some (ptrV fb) /\ V.cell? ⟨w.heap.size + 1, 0, none⟩ = some (.int .i64 d.x.kind) /\ V.cell? ⟨w.heap.size + 1, 1, none⟩ = some (.int .u64 (d.x.set 0)) /\ V.cell? ⟨w.heap.size + 1, 2, none⟩ = some (.int .u64 (d.x.set 1)) /\ V.cell? ⟨w.heap.size + 1, 3, none⟩ = some (.int .u64 (d.x.set 2)) /\ V.cell? ⟨w.heap.size + 1, 4, none⟩ = some (.int .u64 (d.x.set 3)) /\ V.cell? ⟨w.heap.size + 1, 5, none⟩ = some (.int .i64 d.x.lo) /\ V.cell? ⟨w.heap.size + 1, 6, none⟩ = some (.int .i64 d.x.hi) /\ V.cell? ⟨w.heap.size + 1, 7, none⟩ = some (.int .i64 d.x.num) /\ V.cell? ⟨w.heap.size + 1, 8, none⟩ = some (.slice d.x.A d.x.n d.x.c) /\ V.cell? ⟨w.heap.size + 1, 9, none⟩ = some (.slice (some ⟨gk, ok, none⟩) nk d.kc) /\ V.cell? ⟨w.heap.size + 1, 10, none⟩ = some (.int .u8 d.e) /\ V.cell? ⟨w.heap.size + 1, 11, none⟩ = some (.bool d.g) /\ V.cell? ⟨w.heap.size + 1, 12, none⟩ = some .nilFunc /\ V.cell? ⟨gk, ok, none⟩ = some (.int .i64 (q : Int)) by
   obtain ⟨p0, p1, p2⟩ := HF.out V hV;rw [HB.out] at p1
   refine ⟨by rw [obc p0]; rfl, ?_, ?_, ?_, ?_, ?_, ?_, ?_, ?_, ?_, ?_, ?_, ?_, ?_, p2⟩ <;> (rw [obc p1]; rfl))
  refine wp_region_hinv (fun wx => wx.cell? ⟨w.heap.size, 0, none⟩ = some (ptrV fb) /\ wx.cell? ⟨w.heap.size + 1, 0, none⟩ = some (.int .i64 d.x.kind) /\ wx.cell? ⟨w.heap.size + 1, 1, none⟩ = some (.int .u64 (d.x.set 0)) /\ wx.cell? ⟨w.heap.size + 1, 2, none⟩ = some (.int .u64 (d.x.set 1)) /\ wx.cell? ⟨w.heap.size + 1, 3, none⟩ = some (.int .u64 (d.x.set 2)) /\ wx.cell? ⟨w.heap.size + 1, 4, none⟩ = some (.int .u64 (d.x.set 3)) /\ wx.cell? ⟨w.heap.size + 1, 5, none⟩ = some (.int .i64 d.x.lo) /\ wx.cell? ⟨w.heap.size + 1, 6, none⟩ = some (.int .i64 d.x.hi) /\ wx.cell? ⟨w.heap.size + 1, 7, none⟩ = some (.int .i64 d.x.num) /\ wx.cell? ⟨w.heap.size + 1, 8, none⟩ = some (.slice d.x.A d.x.n d.x.c) /\ wx.cell? ⟨w.heap.size + 1, 9, none⟩ = some (.slice (some ⟨gk, ok, none⟩) nk d.kc) /\ wx.cell? ⟨w.heap.size + 1, 10, none⟩ = some (.int .u8 d.e) /\ wx.cell? ⟨w.heap.size + 1, 11, none⟩ = some (.bool d.g) /\ wx.cell? ⟨w.heap.size + 1, 12, none⟩ = some .nilFunc /\ wx.cell? ⟨gk, ok, none⟩ = some (.int .i64 (q : Int))) [0, 1, 2, 3, 4, 5] [9, 10] (fun listed a' w' => ∃ x5 x6 x14 : Value, a' = { tmps := #[ptrV fb, .agg #[.int .i64 d.x.kind, .int .u64 (d.x.set 0), .int .u64 (d.x.set 1), .int .u64 (d.x.set 2), .int .u64 (d.x.set 3), .int .i64 d.x.lo, .int .i64 d.x.hi, .int .i64 d.x.num, .slice d.x.A d.x.n d.x.c, .slice (some ⟨gk, ok, none⟩) nk d.kc, .int .u8 d.e, .bool d.g, .nilFunc], ptrV w.heap.size, ptrV (w.heap.size + 1), .nilFunc, x5, x6, undef, .pointer (some ⟨w.heap.size + 1, 9, none⟩), .slice (some ⟨gk, ok, none⟩) nk d.kc, .pointer (some ⟨gk, ok, none⟩), .int .i64 (q : Int), ptrV fb, .agg #[.int .i64 d.x.kind, .int .u64 (d.x.set 0), .int .u64 (d.x.set 1), .int .u64 (d.x.set 2), .int .u64 (d.x.set 3), .int .i64 d.x.lo, .int .i64 d.x.hi, .int .i64 d.x.num, .slice d.x.A d.x.n d.x.c, .slice (some ⟨gk, ok, none⟩) nk d.kc, .int .u8 d.e, .bool d.g, .nilFunc], x14, undef, undef, undef, undef, undef, undef, undef, undef, undef, undef, undef, undef, undef, undef], defers := [] } /\ RJ listed W q l x5 x6 x14 w') (n := 5) (by kernel_rfl) (by kernel_rfl) (by kernel_rfl) (by kernel_rfl) (fun c a d v w h => hq_body (P := Tryz.prog) (fn := Tryz.f75) c a d v w h) (by kernel_rfl) (HC.out _ (bD W 1)) (by kernel_rfl) (by decide) (fun listed a w' hJ => by obtain ⟨_, _, _, _, hj⟩ := hJ; exact HC.out _ hj.bel) ?_ ?_ ?_
  ·iterate 6
    refine heads_step (v := ?_) rfl (by rfl) (fun wx hSw => ?_) ?_;rotate_left
    ·obtain ⟨u0, u1, u2, u3, u4, u5, u6, u7, u8, u9, u10, u11, u12, u13, u14⟩ := hSw;go_simp;try with_reducible rfl
    simp only [Act.put, List.setIfInBounds_toArray]
   exact heads_end ⟨_, _, _, rfl, bD W 1, (fun h => by cases h), (fun h => by cases h), (fun h => by cases h), (fun h => by cases h), (fun h => by cases h), (fun h => by cases h), (fun i hi => by
    rcases (show i = 0 \/ i = 1 \/ i = 2 \/ i = 3 \/ i = 4 \/ i = 5 by omega) with rfl | rfl | rfl | rfl | rfl | rfl <;> rfl)⟩
  ·rintro listed a' w' i ⟨x5, x6, x14, rfl, hj⟩ hs hi
   have h11 : i < 11 := by
    obtain ⟨_, o, ho, _⟩ := mem_ready.1 hi;exact (Array.getElem?_eq_some_iff.1 ho).1
   have hun := getD_both (mem_ready.1 hi).1;have h6 : ¬ i < 6 := fun h => by rw [hj.hd i h] at hun; cases hun
   have hs11 : listed.size = 11 := hs;rcases (show i = 6 \/ i = 7 \/ i = 8 \/ i = 9 \/ i = 10 by omega) with rfl | rfl | rfl | rfl | rfl
   ·have HK := lh (HLS.out w' hj.bel);refine wpOp_step rfl (fun K hK => ?_);go_simp;refine HK.out.mono ?_;rintro e w'' ⟨rfl, hb⟩;exact hK _ _ ⟨_, _, _, rfl, hj.op6 hb⟩
   ·refine wpOp_step rfl (fun K hK => ?_);go_simp;exact hK _ _ ⟨_, _, _, rfl, hj.op7 hun⟩
   ·refine wpOp_step rfl (fun K hK => ?_);go_simp;exact hK _ _ ⟨_, _, _, rfl, hj.op8 hun⟩
   ·have h7 := dep_of' hi (k := 7) (by kernel_rfl);obtain ⟨b, e, h1, h2⟩ := hj.c7 h7;subst e;have g0 := obc h2 0;have g1 := obj_frozen h2 0;have g2 := lts h2;have HJ := lh (hj.op9 h7 hs11);simp only [List.getElem?_toArray, List.getElem?_cons_zero] at g0;clear h1 h2 hj hi hs hun;refine wpOp_step rfl (fun K hK => ?_);go_simp;exact hK _ _ ⟨_, _, _, rfl, HJ.out⟩
   ·have h8 := dep_of' hi (k := 8) (by kernel_rfl);obtain ⟨b, e, h1, h2⟩ := hj.c8 h8;subst e;have g0 := obc h2 0;have g1 := obj_frozen h2 0;have g2 := lts h2;have h6' := dep_of' hi (k := 6) (by kernel_rfl);have e14 := hj.c6 h6';subst e14;have HJ := lh (hj.op10 h8 hs11);simp only [List.getElem?_toArray, List.getElem?_cons_zero] at g0;clear h1 h2 hj hi hs hun;refine wpOp_step rfl (fun K hK => ?_);go_simp;exact hK _ _ ⟨_, _, _, rfl, HJ.out⟩
  ·rintro listed a' w' ⟨x5, x6, x14, rfl, hj⟩ hall;obtain ⟨b5, e5, h51, h52⟩ := hj.c7 (hall 7 (by decide));obtain ⟨b6, e6, h61, h62⟩ := hj.c8 (hall 8 (by decide));rw [hall 9 (by decide)] at h52;rw [hall 10 (by decide)] at h62;subst e5 e6;obtain ⟨p0, p1, _⟩ := HF.out w' hj.bel;have HR := lh (show RepX w fb q l d w' b5 b6 from ⟨HBW.out.1.trans (hj.bel.mono HBW.out.1.size), p0, p1, h52, h62, by have := HBW.out.2; omega, by have := HBW.out.2; omega⟩);clear hj h52 h62 h51 h61 hall p0 p1;go_wp2_with fail;go_meet
   case rel => exact ⟨b5, b6, rfl, rfl, HR⟩
 obtain ⟨b5, b6, rfl, rfl, HX⟩ := hcut;have ho3 := HX.out.o3;rw [HB.out] at ho3;have k6 : wc.cell? ⟨w.heap.size + 1, 6, none⟩ = some (.int .i64 d.x.hi) := (by rw [obc ho3]; rfl);have c2 : wc.cell? ⟨w.heap.size, 0, none⟩ = some (ptrV fb) := (by rw [obc HX.out.o2]; rfl);have c5 : wc.cell? ⟨b5, 0, none⟩ = some (.int .i64 (q : Int)) := (by rw [obc HX.out.o5]; rfl);have h5l := lts HX.out.o5;have h2l := lts HX.out.o2;have HN := lh fun (b : Nat) (h : w.heap.size <= b) => (show ¬ S2 b from fun hs => by have := HH.out.1 b hs; omega)
 have HSP := lh fun (V : World) (hb : Below wc.heap.size wc V) (h0 : d.x.hi ≠ 0) (hs : sprT d'.t = true) => (show MadeV S2 (fun S w v => FlowV S w fb F.nds d v) w (.returned (funV 99 #[ptrV w.heap.size, ptrV b5])) V from
  ⟨_, rfl, HX.out.bel.trans (hb.mono HX.out.bel.size), .spr HH.out.2.2.2 h0 HH.out.2.1 HH.out.2.2.1 hs ⟨bobj hb HX.out.o2 (lts HX.out.o2), HN.out _ (nlr _)⟩ ⟨bobj hb HX.out.o5 (lts HX.out.o5), HN.out _ HX.out.n5⟩⟩)
 have HR := lh fun (w2 : World) (v : Value) (hb2 : Below wc.heap.size wc w2) (hv : StepV S2 w2 fb F.nds q v) => (show MadeV S2 (fun S w v => FlowV S w fb F.nds d v) w (.returned (funV 101 #[ptrV b6, ptrV (w.heap.size + 1), ptrV w2.heap.size, ptrV w.heap.size, ptrV b5])) (w2.alloc (.cells #[v] 131)) from by
  have hb : Below wc.heap.size wc (w2.alloc (.cells #[v] 131)) := hb2.alloc hb2.size _;refine ⟨_, rfl, HX.out.bel.trans (hb.mono HX.out.bel.size), .rep HH.out.2.2.2 HH.out.2.1 HH.out.2.2.1 ⟨?_, HN.out _ HX.out.n6⟩ ⟨bobj hb HX.out.o3 (lts HX.out.o3), HN.out _ (by omega)⟩ ⟨heap_alloc_new w2 _, HN.out _ ?_⟩ (hv.turned (Turned.of_below (S := fun _ => False) (bW w2 _)) fun _ hf => hf.elim) ⟨bobj hb HX.out.o2 (lts HX.out.o2), HN.out _ (nlr _)⟩ ⟨bobj hb HX.out.o5 (lts HX.out.o5), HN.out _ HX.out.n5⟩⟩
  ·rw [<- HL.out];exact bobj hb HX.out.o6 (lts HX.out.o6)
  ·have := hb2.size;have := HX.out.bel.size
   omega)
 clear ho3;by_cases h0 : d.x.hi = 0
 ·have h0b : (d.x.hi != 0) = false := (by simpa using h0);have HS2 := lh (HST.out wc HX.out.bel);have HR := lh fun (w2 : World) (v : Value) (hb2 : Below wc.heap.size wc w2) (hv : StepV S2 w2 fb F.nds q v) => HR.out w2 v hb2 hv;rw [h0] at k6;clear h0;go_wp2_with fail
  all_goals
   go_at_call 100;with_reducible refine HS2.out.mono ?_
   rintro e w2 ⟨v, rfl, hb2, hv⟩;have HV := lh (aI hb2 hv);obtain ⟨fid, bs, hvf, _⟩ := stepv_form hv;subst hvf;have HQ := lh (HR.out w2 _ hb2 hv);clear hb2 hv;go_wp2_with fail;refine bodyPost_ret (v := funV 101 #[ptrV b6, ptrV (w.heap.size + 1), ptrV w2.heap.size, ptrV w.heap.size, ptrV b5]) (by simp [results, Tryz.results75, go_sem]) rfl HQ.out
 ·have h0b : (d.x.hi != 0) = true := (by simpa using h0);have HIS := lh (HISP.out wc HX.out.bel);have H0 := lh h0;clear h0;go_wp2_with fail;go_at_call 98;with_reducible refine HIS.out.mono ?_
  rintro e w1 ⟨rfl, hb1⟩;cases hs : sprT d'.t
  ·have c2' : w1.cell? ⟨w.heap.size, 0, none⟩ = some (ptrV fb) := (by rw [obc (bobj hb1 HX.out.o2 h2l)]; rfl);have c5' : w1.cell? ⟨b5, 0, none⟩ = some (.int .i64 (q : Int)) := (by rw [obc (bobj hb1 HX.out.o5 h5l)]; rfl);have HS2 := lh (HST.out w1 (HX.out.bel.trans (hb1.mono HX.out.bel.size)));have HR := lh fun (w2 : World) (v : Value) (hb2 : Below w1.heap.size w1 w2) (hv : StepV S2 w2 fb F.nds q v) => HR.out w2 v (hb1.trans (hb2.mono hb1.size)) hv;clear hb1 hs c2 c5 k6;go_wp2_with fail;go_at_call 100;with_reducible refine HS2.out.mono ?_
   rintro e w2 ⟨v, rfl, hb2, hv⟩;have HV := lh (aI hb2 hv);obtain ⟨fid, bs, hvf, _⟩ := stepv_form hv;subst hvf;have HQ := lh (HR.out w2 _ hb2 hv);clear hb2 hv;go_wp2_with fail;refine bodyPost_ret (v := funV 101 #[ptrV b6, ptrV (w.heap.size + 1), ptrV w2.heap.size, ptrV w.heap.size, ptrV b5]) (by simp [results, Tryz.results75, go_sem]) rfl HQ.out
  ·have HQ := lh (HSP.out w1 hb1 H0.out hs);clear hb1 hs;go_wp2_with fail;refine bodyPost_ret (v := funV 99 #[ptrV w.heap.size, ptrV b5]) (by simp [results, Tryz.results75, go_sem]) rfl HQ.out
open Go.RowKit Go.Deep Go.Sort
theorem NodeQ.kid0 {nds : List ND} {d : ND} (h : NodeQ nds d) (hk : d.x.kind = 4 \/ d.x.kind = 5) : ∃ q d', d.ks[0]? = some q /\ nds[q]? = some d' /\ (kidsOf d.t)[0]? = some d'.t := by
 have hl : (kidsOf d.t).length = 1 := by
  rw [h.kind] at hk;unfold kidsOf kidsK;rw [if_neg (by omega), if_pos hk];rfl
 have h0 : 0 < d.ks.length := (by rw [h.len, hl]; exact Nat.one_pos);obtain ⟨q, hq⟩ : ∃ q, d.ks[0]? = some q := ⟨d.ks[0]'h0, List.getElem?_eq_getElem _⟩;obtain ⟨d', h2, h3⟩ := h.kid 0 q hq;exact ⟨q, d', hq, h2, h3⟩
set_option maxRecDepth 100000 in
set_option maxHeartbeats 1000000 in
theorem flow_made {S S2 : Nat -> Prop} {w : World} {fb L : Nat} {F : FN} (h : FindAt S w fb F L) {d : ND} (hq : NodeQ F.nds d) (hk : OffAt S w d.kA (intsV d.ks)) (hS2 : ∀ k, S2 k -> k < w.heap.size) : Calls Tryz.prog 46 #[ptrV fb, .agg d.bare] w (MadeV S2 (fun S w v => FlowV S w fb F.nds d v) w) := by
 obtain ⟨W, hW⟩ : ∃ W, W = (w.alloc (.cells #[ptrV fb] 62)).alloc (.cells d.bare 106) := ⟨_, rfl⟩;have htm := two_made w hS2 #[ptrV fb] d.bare 62 106;rw [<- hW] at htm;have hbW := (obj2 hW).1;have hsW := (obj2 hW).2;have HBW := lh (aI hbW hsW);have HT := lh htm;have HO := lh (one_made (S := S2) (w := W) (fun k hk => Nat.lt_of_lt_of_le (hS2 k hk) hbW.size) fb d.x.set);have HRW := lh (row_made (S := S2) (w := W) (fun k hk => Nat.lt_of_lt_of_le (hS2 k hk) hbW.size) fb F.nds d);have HAL := lh (alt_made (S := S2) (w := W) (fun k hk => Nat.lt_of_lt_of_le (hS2 k hk) hbW.size) fb F.nds d)
 have HRP := lh (fun h4 : d.x.kind = 4 => by
  obtain ⟨q, d', e1, e2, e3⟩ := hq.kid0 (.inl h4)
  exact rep_made (h.below hbW) h4 (hk.stays hbW) e1 e2 fun k hk => Nat.lt_of_lt_of_le (hS2 k hk) hbW.size)
 have c0 := htm.2.2.1;have HN := lh fun (b : Nat) (hb : w.heap.size <= b) => (show ¬ S2 b from fun hs => by have := hS2 b hs; omega);have k2 : W.cell? ⟨w.heap.size, 0, none⟩ = some (ptrV fb) := (by rw [obc htm.2.1.1]; rfl);have hl2 : w.heap.size < W.heap.size := (by omega);have hl3 : w.heap.size + 1 < W.heap.size := (by omega);unfold setV at HO;obtain ⟨kd, hkd⟩ : ∃ n, n = d.x.kind := ⟨_, rfl⟩;have HKD := lh hkd;generalize hb : d.bare = B at hW c0 HRW HAL HRP ⊢;unfold ND.bare at hb;rw [<- hkd] at hb;have HBB := lh hb;subst hb;have q0 : W.cell? ⟨w.heap.size + 1, 0, none⟩ = some (.int .i64 kd) := (by rw [obc c0]; rfl);have q1 : W.cell? ⟨w.heap.size + 1, 1, none⟩ = some (.int .u64 (d.x.set 0)) := (by rw [obc c0]; rfl);have q2 : W.cell? ⟨w.heap.size + 1, 2, none⟩ = some (.int .u64 (d.x.set 1)) := (by rw [obc c0]; rfl);have q3 : W.cell? ⟨w.heap.size + 1, 3, none⟩ = some (.int .u64 (d.x.set 2)) := (by rw [obc c0]; rfl);have q4 : W.cell? ⟨w.heap.size + 1, 4, none⟩ = some (.int .u64 (d.x.set 3)) := (by rw [obc c0]; rfl);have q5 : W.cell? ⟨w.heap.size + 1, 5, none⟩ = some (.int .i64 d.x.lo) := (by rw [obc c0]; rfl);have q6 : W.cell? ⟨w.heap.size + 1, 6, none⟩ = some (.int .i64 d.x.hi) := (by rw [obc c0]; rfl);have q7 : W.cell? ⟨w.heap.size + 1, 7, none⟩ = some (.int .i64 d.x.num) := (by rw [obc c0]; rfl);have q8 : W.cell? ⟨w.heap.size + 1, 8, none⟩ = some (.slice d.x.A d.x.n d.x.c) := (by rw [obc c0]; rfl);have q9 : W.cell? ⟨w.heap.size + 1, 9, none⟩ = some (.slice d.kA d.ks.length d.kc) := (by rw [obc c0]; rfl);have q10 : W.cell? ⟨w.heap.size + 1, 10, none⟩ = some (.int .u8 d.e) := (by rw [obc c0]; rfl);have q11 : W.cell? ⟨w.heap.size + 1, 11, none⟩ = some (.bool d.g) := (by rw [obc c0]; rfl);have q12 : W.cell? ⟨w.heap.size + 1, 12, none⟩ = some .nilFunc := (by rw [obc c0]; rfl);clear c0 htm hbW hsW h hq hk hS2;have HW := lh hW;by_cases h1 : kd = 1
 ·have hk1 : d.x.kind = 1 := (by rw [<- hkd]; exact h1);have HK1 := lh hk1;subst h1;clear hkd hk1;go_enter Tryz.func46, Tryz.ntmps46;go_upto_region 1 with fail;rw [<- hW];clear hW;go_wp2_with fail;go_at_call 69;with_reducible refine HO.out.mono ?_
  rintro e w1 ⟨v, rfl, hb1, hv⟩
  have HP := lh (show MadeV S2 (fun S w v => FlowV S w fb F.nds d v) w (.returned (funV 70 #[ptrV w1.heap.size])) (w1.alloc (.cells #[v] 131)) from
   ⟨_, rfl, HBW.out.1.trans (((hb1.alloc hb1.size _)).mono HBW.out.1.size), .one HK1.out ⟨heap_alloc_new w1 _, HN.out _ (Nat.le_trans HBW.out.1.size hb1.size)⟩ (hv.turned (Turned.of_below (S := fun _ => False) (bW w1 _)) fun _ hf => hf.elim)⟩)
  obtain ⟨b1, b2, e, _, _⟩ := hv;subst e;clear hb1;go_wp2_with fail;refine bodyPost_ret (v := funV 70 #[ptrV w1.heap.size]) (by simp [results, Tryz.results46, go_sem]) rfl HP.out
 have h1b : (kd == 1) = false := (by simpa using h1);by_cases h2 : kd = 2
 ·have HR := lh (HRW.out (by rw [<- hkd]; exact h2));subst h2;clear hkd;go_enter Tryz.func46, Tryz.ntmps46;go_upto_region 1 with fail;rw [<- hW];clear hW;go_wp2_with fail;go_at_call 72;with_reducible refine HR.out.mono ?_
  rintro e w1 ⟨v, rfl, hb1, hv⟩;have HP := lh (show MadeV S2 (fun S w v => FlowV S w fb F.nds d v) w (.returned v) w1 from ⟨v, rfl, HBW.out.1.trans (hb1.mono HBW.out.1.size), hv⟩);clear hb1 hv;go_wp2_with fail;refine bodyPost_ret (v := v) (by simp [results, Tryz.results46, go_sem]) rfl HP.out
 have h2b : (kd == 2) = false := (by simpa using h2);by_cases h3 : kd = 3
 ·have HR := lh (HAL.out (by rw [<- hkd]; exact h3));subst h3;clear hkd;go_enter Tryz.func46, Tryz.ntmps46;go_upto_region 1 with fail;rw [<- hW];clear hW;go_wp2_with fail;go_at_call 73;with_reducible refine HR.out.mono ?_
  rintro e w1 ⟨v, rfl, hb1, hv⟩;have HP := lh (show MadeV S2 (fun S w v => FlowV S w fb F.nds d v) w (.returned v) w1 from ⟨v, rfl, HBW.out.1.trans (hb1.mono HBW.out.1.size), hv⟩);clear hb1 hv;go_wp2_with fail;refine bodyPost_ret (v := v) (by simp [results, Tryz.results46, go_sem]) rfl HP.out
 have h3b : (kd == 3) = false := (by simpa using h3);by_cases h5 : kd = 5
 ·have HP := lh (show MadeV S2 (fun S w v => FlowV S w fb F.nds d v) w (.returned (funV 74 #[ptrV w.heap.size, ptrV (w.heap.size + 1)])) W from
   ⟨_, rfl, HBW.out.1, .grp (by rw [<- hkd]; exact h5) HT.out.2.1 HT.out.2.2⟩)
  subst h5;clear hkd;go_enter Tryz.func46, Tryz.ntmps46;go_upto_region 1 with fail;rw [<- hW];clear hW;go_wp2_with fail;refine bodyPost_ret (v := funV 74 #[ptrV w.heap.size, ptrV (w.heap.size + 1)]) (by simp [results, Tryz.results46, go_sem]) rfl HP.out
 have h5b : (kd == 5) = false := (by simpa using h5);by_cases h4 : kd = 4
 ·have HR := lh (HRP.out (by rw [<- hkd]; exact h4));subst h4;clear hkd;go_enter Tryz.func46, Tryz.ntmps46;go_upto_region 1 with fail;rw [<- hW];clear hW;go_wp2_with fail;go_at_call 75;with_reducible refine HR.out.mono ?_
  rintro e w1 ⟨v, rfl, hb1, hv⟩;have HP := lh (show MadeV S2 (fun S w v => FlowV S w fb F.nds d v) w (.returned v) w1 from ⟨v, rfl, HBW.out.1.trans (hb1.mono HBW.out.1.size), hv⟩);clear hb1 hv;go_wp2_with fail;refine bodyPost_ret (v := v) (by simp [results, Tryz.results46, go_sem]) rfl HP.out
 ·have h4b : (kd == 4) = false := (by simpa using h4)
  have HP := lh (show MadeV S2 (fun S w v => FlowV S w fb F.nds d v) w (.returned (funV 76 #[])) W from
   ⟨_, rfl, HBW.out.1, by rw [hkd] at h1 h2 h3 h4 h5; exact .oth h1 h2 h3 h4 h5⟩)
  clear hkd h1 h2 h3 h4 h5;go_enter Tryz.func46, Tryz.ntmps46;go_upto_region 1 with fail;rw [<- hW];clear hW;go_wp2_with fail;refine bodyPost_ret (v := funV 76 #[]) (by simp [results, Tryz.results46, go_sem]) rfl HP.out
open Go.RowKit Go.Deep Go.Sort
theorem and15 : ∀ e : Fin 16, e.val &&& 15 = e.val := by decide
theorem emp_one {t : PN} (h : t.kind = 4 \/ t.kind = 5) : andN (empL (kidsOf t)) = headN (empL (kidsOf t)) := by
 have hl : (kidsOf t).length = 1 := by
  unfold kidsOf kidsK;rw [if_neg (by omega), if_pos h];rfl
 match hk : kidsOf t with
 | [] => rw [hk] at hl; cases hl
 | [q] =>
  simp only [empL, andN, headN];exact and15 ⟨_, empT_lt q⟩
 | _ :: _ :: _ => rw [hk] at hl; simp at hl
set_option maxRecDepth 100000 in
theorem emptySpots_is {S : Nat -> Prop} {w : World} {fb L : Nat} {F : FN} (h : FindAt S w fb F L) {d : ND} (hq : NodeQ F.nds d) (hk : OffAt S w d.kA (intsV d.ks)) : Calls Tryz.prog 44 #[ptrV fb, .agg d.bare] w (U8C (empT d.t) w) := by
 have he := emp_cnt d.t;have hB := bW w (.cells d.bare 106);have HOne := lh (emptyInOne_is (h.below hB) hq (hk.stays hB));have HAll := lh (emptyInAll_is (h.below hB) hq (hk.stays hB));have hone : d.x.kind = 4 \/ d.x.kind = 5 -> andN (empL (kidsOf d.t)) = headN (empL (kidsOf d.t)) := fun h => emp_one (by rw [<- hq.kind]; exact h)
 have hnil : d.x.kind ≠ 2 -> d.x.kind ≠ 3 -> d.x.kind ≠ 4 -> d.x.kind ≠ 5 -> kidsOf d.t = [] := fun h2 h3 h4 h5 => by
  rw [hq.kind] at h2 h3 h4 h5;unfold kidsOf kidsK;rw [if_neg (by omega), if_neg (by omega)]
 rw [<- hq.kind, <- hq.lo] at he;obtain ⟨W, hW⟩ : ∃ W, W = w.alloc (.cells d.bare 106) := ⟨_, rfl⟩;rw [<- hW] at HOne HAll hB;have c0 : W.heap[w.heap.size]? = some (.cells d.bare 106 (0, 0)) := (by rw [hW]; exact heap_alloc_new w _);have hl3 : w.heap.size < W.heap.size := lts c0;obtain ⟨kd, hkd⟩ : ∃ n, n = d.x.kind := ⟨_, rfl⟩;rw [<- hkd] at he hone hnil;generalize hb : d.bare = B at hW c0 HOne HAll ⊢;unfold ND.bare at hb;rw [<- hkd] at hb;subst hb;have q0 : W.cell? ⟨w.heap.size, 0, none⟩ = some (.int .i64 kd) := (by rw [obc c0]; rfl);have q1 : W.cell? ⟨w.heap.size, 1, none⟩ = some (.int .u64 (d.x.set 0)) := (by rw [obc c0]; rfl);have q2 : W.cell? ⟨w.heap.size, 2, none⟩ = some (.int .u64 (d.x.set 1)) := (by rw [obc c0]; rfl);have q3 : W.cell? ⟨w.heap.size, 3, none⟩ = some (.int .u64 (d.x.set 2)) := (by rw [obc c0]; rfl);have q4 : W.cell? ⟨w.heap.size, 4, none⟩ = some (.int .u64 (d.x.set 3)) := (by rw [obc c0]; rfl);have q5 : W.cell? ⟨w.heap.size, 5, none⟩ = some (.int .i64 d.x.lo) := (by rw [obc c0]; rfl);have q6 : W.cell? ⟨w.heap.size, 6, none⟩ = some (.int .i64 d.x.hi) := (by rw [obc c0]; rfl);have q7 : W.cell? ⟨w.heap.size, 7, none⟩ = some (.int .i64 d.x.num) := (by rw [obc c0]; rfl);have q8 : W.cell? ⟨w.heap.size, 8, none⟩ = some (.slice d.x.A d.x.n d.x.c) := (by rw [obc c0]; rfl);have q9 : W.cell? ⟨w.heap.size, 9, none⟩ = some (.slice d.kA d.ks.length d.kc) := (by rw [obc c0]; rfl);have q10 : W.cell? ⟨w.heap.size, 10, none⟩ = some (.int .u8 d.e) := (by rw [obc c0]; rfl);have q11 : W.cell? ⟨w.heap.size, 11, none⟩ = some (.bool d.g) := (by rw [obc c0]; rfl);have q12 : W.cell? ⟨w.heap.size, 12, none⟩ = some .nilFunc := (by rw [obc c0]; rfl);clear c0 h hq hk;have HB := lh hB;clear hB;by_cases h1 : kd = 1
 ·have HP := lh (show U8C (empT d.t) w (.returned (.int .u8 0)) W from ⟨by rw [he, h1]; rfl, HB.out⟩);subst h1;clear hkd he hone hnil;go_enter Tryz.func44, Tryz.ntmps44;go_upto_region 1 with fail;rw [<- hW];clear hW;go_wp2_with fail;refine bodyPost_ret (v := .int .u8 0) (by simp [results, Tryz.results44, go_sem]) rfl HP.out
 have h1b : (kd == 1) = false := (by simpa using h1);by_cases h6 : kd = 6
 ·have HP := lh (show U8C (empT d.t) w (.returned (.int .u8 10)) W from ⟨by rw [he, h6]; rfl, HB.out⟩);subst h6;clear hkd he hone hnil;go_enter Tryz.func44, Tryz.ntmps44;go_upto_region 1 with fail;rw [<- hW];clear hW;go_wp2_with fail;refine bodyPost_ret (v := .int .u8 10) (by simp [results, Tryz.results44, go_sem]) rfl HP.out
 have h6b : (kd == 6) = false := (by simpa using h6);by_cases h7 : kd = 7
 ·have HP := lh (show U8C (empT d.t) w (.returned (.int .u8 12)) W from ⟨by rw [he, h7]; rfl, HB.out⟩);subst h7;clear hkd he hone hnil;go_enter Tryz.func44, Tryz.ntmps44;go_upto_region 1 with fail;rw [<- hW];clear hW;go_wp2_with fail;refine bodyPost_ret (v := .int .u8 12) (by simp [results, Tryz.results44, go_sem]) rfl HP.out
 have h7b : (kd == 7) = false := (by simpa using h7);by_cases h3 : kd = 3
 ·have HE := lh (show empT d.t = orN (empL (kidsOf d.t)) by rw [he, h3]; rfl);subst h3;clear hkd he hone hnil;go_enter Tryz.func44, Tryz.ntmps44;go_upto_region 1 with fail;rw [<- hW];clear hW;go_wp2_with fail;go_at_call 66;with_reducible refine HOne.out.mono ?_
  rintro e w1 ⟨rfl, hb1⟩;have HP := lh (show U8C (empT d.t) w (.returned (.int .u8 (orN (empL (kidsOf d.t)) : Nat))) w1 from ⟨by rw [HE.out], HB.out.trans (hb1.mono HB.out.size)⟩);clear hb1;go_wp2_with fail;refine bodyPost_ret (v := .int .u8 (orN (empL (kidsOf d.t)) : Nat)) (by simp [results, Tryz.results44, go_sem]) rfl HP.out
 have h3b : (kd == 3) = false := (by simpa using h3);by_cases h4 : kd = 4 /\ d.x.lo <= 0
 ·have HP := lh (show U8C (empT d.t) w (.returned (.int .u8 15)) W from ⟨by rw [he, h4.1]; unfold empK; simp [h4.2], HB.out⟩);have h4b : (kd == 4) = true := (by simpa using h4.1);have hlb : decide (d.x.lo <= 0) = true := dqt h4.2;clear hkd he hone hnil h4 h1 h6 h7 h3;go_enter Tryz.func44, Tryz.ntmps44;go_upto_region 1 with fail;rw [<- hW];clear hW;go_wp2_with fail;refine bodyPost_ret (v := .int .u8 15) (by simp [results, Tryz.results44, go_sem]) rfl HP.out
 ·have HE := lh (show empT d.t = andN (empL (kidsOf d.t)) by
   rw [he];unfold empK;rw [if_neg h1];by_cases h2 : kd = 2
   ·rw [if_pos h2]
   rw [if_neg h2, if_neg h3];by_cases h4' : kd = 4
   ·rw [if_pos h4', if_neg (fun hl => h4 ⟨h4', hl⟩), hone (.inl h4')]
   rw [if_neg h4'];by_cases h5 : kd = 5
   ·rw [if_pos h5, hone (.inr h5)]
   rw [if_neg h5, if_neg h6, if_neg h7, hnil h2 h3 h4' h5]
   rfl)
  by_cases h4' : kd = 4
  ·have h4b : (kd == 4) = true := (by simpa using h4');have hlb : decide (d.x.lo <= 0) = false := dqf fun hl => h4 ⟨h4', hl⟩;clear hkd he hone hnil h4 h1 h6 h7 h3 h4';go_enter Tryz.func44, Tryz.ntmps44;go_upto_region 1 with fail;rw [<- hW];clear hW;go_wp2_with fail;go_at_call 67;with_reducible refine HAll.out.mono ?_
   rintro e w1 ⟨rfl, hb1⟩;have HP := lh (show U8C (empT d.t) w (.returned (.int .u8 (andN (empL (kidsOf d.t)) : Nat))) w1 from ⟨by rw [HE.out], HB.out.trans (hb1.mono HB.out.size)⟩);clear hb1;go_wp2_with fail;refine bodyPost_ret (v := .int .u8 (andN (empL (kidsOf d.t)) : Nat)) (by simp [results, Tryz.results44, go_sem]) rfl HP.out
  ·have h4b : (kd == 4) = false := (by simpa using h4');clear hkd he hone hnil h4 h1 h6 h7 h3 h4';go_enter Tryz.func44, Tryz.ntmps44;go_upto_region 1 with fail;rw [<- hW];clear hW;go_wp2_with fail;go_at_call 67;with_reducible refine HAll.out.mono ?_
   rintro e w1 ⟨rfl, hb1⟩;have HP := lh (show U8C (empT d.t) w (.returned (.int .u8 (andN (empL (kidsOf d.t)) : Nat))) w1 from ⟨by rw [HE.out], HB.out.trans (hb1.mono HB.out.size)⟩);clear hb1;go_wp2_with fail;refine bodyPost_ret (v := .int .u8 (andN (empL (kidsOf d.t)) : Nat)) (by simp [results, Tryz.results44, go_sem]) rfl HP.out
def CntC (S : Nat -> Prop) (t : PN) (w : World) (e : Ending) (w' : World) : Prop := ∃ (A : Option Addr) (c : Nat) (ys : List NV), e = .returned (.slice A (kidsOf t).length c) /\ AllP S w' (kidsOf t) ys /\ RawOff S w' A (nsV ys) /\ Below w.heap.size w w'
theorem RawOff.pre {S : Nat -> Prop} {w : World} {A : Option Addr} {a b : List Value} (h : RawOff S w A (a ++ b)) : RawOff S w A a := by
 rcases h with h | ⟨g, o, e, hn, hr⟩
 ·exact .inl (List.append_eq_nil_iff.1 h).1
 ·refine .inr ⟨g, o, e, hn, fun j v hv => hr j v ?_⟩;rw [List.getElem?_append_left (List.getElem?_eq_some_iff.1 hv).1];exact hv
set_option maxRecDepth 100000 in
theorem counting_is {S : Nat -> Prop} {w : World} (hS : ∀ k, S k -> k < w.heap.size) {t : PN} {x : NV} (h : IsP S w t x) : Calls Tryz.prog 43 #[x.v] w (CntC S t w) := by
 cases h with
 | @mk k T lo hi num kids A c xs hl hc hr hk =>
  have HB := lh (bW w (.cells #[.int .i64 k, .int .u64 (T 0), .int .u64 (T 1), .int .u64 (T 2), .int .u64 (T 3), .int .i64 lo, .int .i64 hi, .int .i64 num, .slice A kids.length c] 28));have HA := lh (show AllP S w kids xs from ⟨hl, hk⟩);have HR := lh hr;have HS := lh hS;unfold NV.v nodeV;obtain ⟨n, hn⟩ : ∃ n, n = kids.length := ⟨_, rfl⟩;have HN := lh hn;have hko : kidsOf (.mk k T lo hi num kids) = kidsK k kids := rfl;by_cases h2 : k = 2 \/ k = 3
  ·have hkk : kidsOf (.mk k T lo hi num kids) = kids := (by rw [hko]; unfold kidsK; rw [if_pos h2])
   have HP := lh fun (V : World) (hb : Below w.heap.size w V) => (show CntC S (.mk k T lo hi num kids) w (.returned (.slice A n c)) V from by
    refine ⟨A, c, xs, by rw [hkk, <- HN.out], ?_, HR.out.turned (Turned.of_below hb), hb⟩;rw [hkk]
    exact HA.out.turned (Turned.of_below hb))
   simp only;rw [<- hn] at HB ⊢;clear hn hkk hko hl hc hr hk hS;rcases h2 with h2 | h2
   ·have HQ := lh (HP.out _ HB.out);subst h2;go_enter Tryz.func43, Tryz.ntmps43;go_wp2_with fail;refine bodyPost_ret (v := .slice A n c) (by simp [results, Tryz.results43, go_sem]) rfl HQ.out
   ·have HQ := lh (HP.out _ HB.out);subst h2;go_enter Tryz.func43, Tryz.ntmps43;go_wp2_with fail;refine bodyPost_ret (v := .slice A n c) (by simp [results, Tryz.results43, go_sem]) rfl HQ.out
  have h2b : (k == 2) = false := (by simpa using (fun h => h2 (.inl h) : k ≠ 2));have h3b : (k == 3) = false := (by simpa using (fun h => h2 (.inr h) : k ≠ 3));by_cases h4 : k = 4 \/ k = 5
  ·by_cases h0 : n = 0
   ·have hkk : kidsOf (.mk k T lo hi num kids) = [nothing] := by
     rw [hko];unfold kidsK;rw [if_neg h2, if_pos h4, List.eq_nil_of_length_eq_zero (by omega : kids.length = 0)];rfl
    have HP := lh fun (V : World) (g : Nat) (hb : Below w.heap.size w V) (hg : w.heap.size <= g) (ho : V.heap[g]? = some (.cells #[.int .i64 0, .int .u64 0, .int .u64 0, .int .u64 0, .int .u64 0, .int .i64 0, .int .i64 0, .int .i64 0, .slice none 0 0] 28 (0, 0))) => (show CntC S (.mk k T lo hi num kids) w (.returned (.slice (some ⟨g, 0, none⟩) 1 1)) V from by
     refine ⟨some ⟨g, 0, none⟩, 1, [⟨0, noS, 0, 0, 0, none, 0, 0⟩], by rw [hkk]; rfl, ?_, .inr ⟨g, 0, rfl, fun hs => by have := HS.out g hs; omega, fun j v hv => ?_⟩, hb⟩
     ·rw [hkk];exact AllP.one (.leaf S V 0 noS 0 0 0)
     ·rw [Nat.zero_add, obc ho, List.getElem?_toArray]
      exact hv)
    have h40 : n = 0 := h0;simp only;rw [<- hn] at HB ⊢;clear hn hkk hko hl hc hr hk hS h2 h40;subst h0;rcases h4 with h4 | h4
    ·subst h4;have HQ := lh (HP.out _ _ (HB.out.alloc HB.out.size _) HB.out.size (heap_alloc_new _ _));go_enter Tryz.func43, Tryz.ntmps43;go_wp2_with fail;refine bodyPost_ret (v := .slice (some ⟨w.heap.size + 1, 0, none⟩) 1 1) (by simp [results, Tryz.results43, go_sem]) rfl ?_;have hh := HQ.out;rw [World.size_alloc] at hh;exact hh
    ·subst h4;have HQ := lh (HP.out _ _ (HB.out.alloc HB.out.size _) HB.out.size (heap_alloc_new _ _));go_enter Tryz.func43, Tryz.ntmps43;go_wp2_with fail;refine bodyPost_ret (v := .slice (some ⟨w.heap.size + 1, 0, none⟩) 1 1) (by simp [results, Tryz.results43, go_sem]) rfl ?_;have hh := HQ.out;rw [World.size_alloc] at hh;exact hh
   ·have hkk : ∃ t0 x0 tr xr, kids = t0 :: tr /\ xs = x0 :: xr := by
     match kids, xs, hl, hn with
     | [], _, _, hn => exact absurd hn (by simpa using h0)
     | t0 :: tr, [], hl, _ => simp at hl
     | t0 :: tr, x0 :: xr, _, _ => exact ⟨_, _, _, _, rfl, rfl⟩
    obtain ⟨t0, x0, tr, xr, e1, e2⟩ := hkk
    have hkk : kidsOf (.mk k T lo hi num kids) = [t0] := by
     rw [hko];unfold kidsK;rw [if_neg h2, if_pos h4, e1];rfl
    have h1 : RawOff S w A (nsV [x0]) := by
     rw [e2, show (x0 :: xr) = [x0] ++ xr from rfl, nsV_append] at hr;exact hr.pre
    have h1x : AllP S w [t0] [x0] := AllP.one (hk 0 t0 x0 (by rw [e1]; rfl) (by rw [e2]; rfl))
    have HP := lh fun (V : World) (hb : Below w.heap.size w V) => (show CntC S (.mk k T lo hi num kids) w (.returned (.slice A 1 c)) V from by
     refine ⟨A, c, [x0], by rw [hkk]; rfl, ?_, h1.turned (Turned.of_below hb), hb⟩;rw [hkk]
     exact h1x.turned (Turned.of_below hb))
    obtain ⟨g, o, hA, hgr⟩ : ∃ g o, A = some ⟨g, o, none⟩ /\ True := by
     rcases h1 with h1 | ⟨g, o, e, _⟩
     ·simp [nsV, NV.cells] at h1
     ·exact ⟨g, o, e, trivial⟩
    have hc1 : 1 <= c := (by omega);have hc1I : (1 : Int) <= (c : Int) := (by omega);have hnb : ((n : Int) == 0) = false := (by simpa using h0);simp only;rw [<- hn] at HB ⊢;subst hA;have HQ := lh (HP.out _ HB.out);clear hn hkk hko hl hc hr hk hS h2 e1 e2 h1 h1x HP;rcases h4 with h4 | h4
    ·subst h4;go_enter Tryz.func43, Tryz.ntmps43;go_wp2_with fail;refine bodyPost_ret (v := .slice (some ⟨g, o, none⟩) 1 c) (by simp [results, Tryz.results43, go_sem]) rfl HQ.out
    ·subst h4;go_enter Tryz.func43, Tryz.ntmps43;go_wp2_with fail;refine bodyPost_ret (v := .slice (some ⟨g, o, none⟩) 1 c) (by simp [results, Tryz.results43, go_sem]) rfl HQ.out
  ·have h4b : (k == 4) = false := (by simpa using (fun h => h4 (.inl h) : k ≠ 4));have h5b : (k == 5) = false := (by simpa using (fun h => h4 (.inr h) : k ≠ 5));have hkk : kidsOf (.mk k T lo hi num kids) = [] := (by rw [hko]; unfold kidsK; rw [if_neg h2, if_neg h4])
   have HP := lh fun (V : World) (hb : Below w.heap.size w V) => (show CntC S (.mk k T lo hi num kids) w (.returned (.slice none 0 0)) V from by
    refine ⟨none, 0, [], by rw [hkk]; rfl, ?_, .nil _ _ _, hb⟩;rw [hkk]
    exact AllP.nil S V)
   simp only;rw [<- hn] at HB ⊢;have HQ := lh (HP.out _ HB.out);clear hn hkk hko hl hc hr hk hS h2 h4 HP;go_enter Tryz.func43, Tryz.ntmps43;go_wp2_with fail;refine bodyPost_ret (v := .slice none 0 0) (by simp [results, Tryz.results43, go_sem]) rfl HQ.out
open Go.RowKit Go.Deep Go.Sort
set_option maxRecDepth 100000 in
theorem info_int : (Tryz.prog.info? 3).map (fun i => (i.zero, i.size, i.bytes)) = some (some (.int .i64 0), 1, 8) := by kernel_rfl
theorem elem_int : ElemOf 101 3 1 8 := by
 obtain ⟨i, hi, hz, hs, hb⟩ := info_parts info_int;exact ⟨Tryz.underlying101, ⟨i, _, hi, hz, hs, hb, rfl⟩, by omega, by omega⟩
theorem with_with (F : FN) (A A' : Option Addr) (c c' : Nat) (l l' : List ND) : (F.with' A c l).with' A' c' l' = F.with' A' c' (l ++ l') := by
 unfold FN.with';simp [List.append_assoc]
structure Numd (S : Nat -> Prop) (fb : Nat) (F : FN) (L : Nat) (t : PN) (w w' : World) (A : Option Addr) (c : Nat) (l : List ND) (q : Nat) (d : ND) : Prop where
 num : NumAt S w' fb (F.with' A c l) L
 len : l.length = nodT t
 at' : q + 1 = F.nds.length + l.length
 nd : (F.nds ++ l)[q]? = some d
 tr : d.t = t
 tur : Turned (fun k => k = fb \/ F.own k) w w'
 own : ∀ k, (F.with' A c l).own k -> F.own k \/ w.heap.size <= k
def NumE (S : Nat -> Prop) (fb : Nat) (F : FN) (L : Nat) (t : PN) (w : World) (e : Ending) (w' : World) : Prop := ∃ A c l q d, e = .returned (.int .i64 ((q : Nat) : Int)) /\ Numd S fb F L t w w' A c l q d
def NumC (t : PN) : Prop := ∀ (S : Nat -> Prop) (w : World) (fb : Nat) (F : FN) (L : Nat) (x : NV), NumAt S w fb F L -> IsP (fun k => S k \/ F.own k) w t x -> F.nds.length + nodT t <= 100000 ->
 Calls Tryz.prog 27 #[ptrV fb, x.v] w (NumE S fb F L t w)
def rblk (kA : Option Addr) (n kc : Nat) (k : Nat) : Prop := (Value.slice kA n kc).ownBlock = some k
def NV.cell9 (x : NV) (kA : Option Addr) (n kc : Nat) (e : Nat) (g : Bool) (fn : Value) : Array Value := #[.int .i64 x.kind, .int .u64 (x.set 0), .int .u64 (x.set 1), .int .u64 (x.set 2), .int .u64 (x.set 3), .int .i64 x.lo, .int .i64 x.hi, .int .i64 x.num, .slice x.A x.n x.c, .slice kA n kc, .int .u8 e, .bool g, fn]
structure NumI (S : Nat -> Prop) (fb : Nat) (F : FN) (L : Nat) (t : PN) (x : NV) (A0 : Option Addr) (ys : List NV) (w : World) (i : Nat) (wr : World) (A : Option Addr) (c : Nat) (l : List ND) (kA : Option Addr) (kc : Nat) (ks : List Nat) : Prop where
 num : NumAt (fun k => Pr S w 2 k \/ rblk kA i kc k) wr fb (F.with' A c l) L
 len : l.length = nodL ((kidsOf t).take i)
 kl : ks.length = i
 kid : ∀ (j q : Nat), ks[j]? = some q -> ∃ d', (F.nds ++ l)[q]? = some d' /\ (kidsOf t)[j]? = some d'.t
 krow : wr.ownsRow 0 3 1 (.slice kA i kc) i (intsV ks)
 kfr : ∀ k, rblk kA i kc k -> w.heap.size + 2 <= k
 kcap : i <= kc
 o5 : wr.heap[w.heap.size + 1]? = some (.cells (x.cell9 kA i kc 0 false .nilFunc) 106 (0, 0))
 row : RawOff (fun k => (Pr S w 2 k \/ rblk kA i kc k) \/ (F.with' A c l).own k) wr A0 (nsV ys)
 all : AllP (fun k => (Pr S w 2 k \/ rblk kA i kc k) \/ (F.with' A c l).own k) wr (kidsOf t) ys
 tur : Turned (fun k => k = fb \/ F.own k) w wr
 own : ∀ k, (F.with' A c l).own k -> F.own k \/ w.heap.size <= k
theorem RawOff.fresh' {S S' : Nat -> Prop} {w : World} {A : Option Addr} {vs : List Value} (h : RawOff S w A vs) (hS : ∀ k, S' k -> S k \/ w.heap.size <= k) : RawOff S' w A vs := by
 rcases h with h | ⟨g, o, e, hn, hr⟩
 ·exact .inl h
 ·match vs, hr with
  | [], _ => exact .inl rfl
  | v :: r, hr =>
   have hg : g < w.heap.size := World.block_lt_of_cell? w _ (hr 0 v rfl);exact .inr ⟨g, o, e, fun ht => (hS g ht).elim hn (fun h => by omega), hr⟩
theorem IsP.fresh' {S S' : Nat -> Prop} {w : World} {t : PN} {x : NV} (h : IsP S w t x) (hS : ∀ k, S' k -> S k \/ w.heap.size <= k) : IsP S' w t x := h.fresh.weaken hS
theorem AllP.fresh' {S S' : Nat -> Prop} {w : World} {ts : List PN} {xs : List NV} (h : AllP S w ts xs) (hS : ∀ k, S' k -> S k \/ w.heap.size <= k) : AllP S' w ts xs := ⟨h.1, fun i t x h1 h2 => (h.2 i t x h1 h2).fresh' hS⟩
theorem NumI.go {S : Nat -> Prop} {fb L i kc c q : Nat} {F : FN} {t tk : PN} {x : NV} {A0 A kA : Option Addr} {ys : List NV} {l : List ND} {ks : List Nat} {w wr w1 w2 : World} (h : NumI S fb F L t x A0 ys w i wr A c l kA kc ks) (hS : NumAt S w fb F L) (ht : (kidsOf t)[i]? = some tk) (hi : i < 100000) (hb : Below wr.heap.size wr w1)
  {A' : Option Addr} {c' : Nat} {l' : List ND} {d : ND} (hE : Numd (fun k => Pr S w 2 k \/ rblk kA i kc k) fb (F.with' A c l) L tk w1 w2 A' c' l' q d) :
  w2.heap[w.heap.size + 1]? = some (.cells (x.cell9 kA i kc 0 false .nilFunc) 106 (0, 0)) ∧
  ∃ kA' kc' w4, (Builtin.append_ #[101, 101] 101 #[.slice kA i kc, .slice (some ⟨w2.heap.size, 0, none⟩) 1 1]).run Tryz.prog (w2.alloc (.cells #[.int .i64 (q : Int)] 3)) = .ok (.slice kA' (i + 1) kc') w4 ∧
   w4.heap[w.heap.size + 1]? = some (.cells (x.cell9 kA i kc 0 false .nilFunc) 106 (0, 0)) /\ Turned (rblk kA i kc) w2 w4 ∧
   NumI S fb F L t x A0 ys w (i + 1) (w4.setCell ⟨w.heap.size + 1, 9, none⟩ (.slice kA' (i + 1) kc')) A' c' (l ++ l') kA' kc' (ks ++ [q]) := by
 have hfbl : fb < w.heap.size := lts hS.obj;have hown : ∀ k, (F.with' A c l).own k -> ¬ (Pr S w 2 k \/ rblk kA i kc k) := h.num.off
 have hb1 : ∀ k, k < wr.heap.size -> k ≠ fb -> ¬ (F.with' A c l).own k -> w2.heap[k]? = wr.heap[k]? := fun k hk h1 h2 => by
  rw [hE.tur.block k (Nat.lt_of_lt_of_le hk hb.size) (fun e => e.elim h1 h2), hb.block k hk]
 have hT2 : Turned (fun k => k = fb \/ (F.with' A c l).own k) wr w2 := (Turned.of_below (S := fun k => k = fb \/ (F.with' A c l).own k) hb).trans hE.tur fun _ _ h => h;have h5l := lts h.o5;have p5 : w2.heap[w.heap.size + 1]? = _ := hT2.obj h.o5 fun e => e.elim (by omega) fun e => hown _ e (.inl (.inr (by omega)))
 have hk2 : w2.ownsRow 0 3 1 (.slice kA i kc) i (intsV ks) := ownsRow_turned h.krow hT2 fun k hk e => by
  rcases e with e | e
  ·have := h.kfr k hk; omega
  ·exact hown k e (.inr hk)
 have hb3 := bW w2 (.cells #[.int .i64 (q : Int)] 3);have hk3 : (w2.alloc (.cells #[.int .i64 (q : Int)] 3)).ownsRow 0 3 1 (.slice kA i kc) i (intsV ks) := ownsRow_turned (S := fun _ => False) hk2 (Turned.of_below hb3) fun _ _ hf => hf
 obtain ⟨v', w4, hap, hown4, hgr, hk⟩ := run_append_raw elem_int hk3 (some ⟨w2.heap.size, 0, none⟩) 1 1 [.int .i64 (q : Int)] (.inr ⟨w2.heap.size, 0, rfl, fun j v hv => by
  rw [Nat.zero_add, obc (heap_alloc_new w2 _), List.getElem?_toArray]
  exact hv⟩) rfl (fun u hu => by
  have : u = .int .i64 (q : Int) := (by simpa using hu)
  rw [this]; rfl) (by omega) (Nat.zero_le _)
 obtain ⟨kA', kc', e, hcc, _, _⟩ := own_form hown4;subst e;have hT34 : Turned (rblk kA i kc) (w2.alloc (.cells #[.int .i64 (q : Int)] 3)) w4 := Turned.of_grown (S := rblk kA i kc) hgr fun k hk => hk;have hT4 : Turned (rblk kA i kc) w2 w4 := (Turned.of_below (S := rblk kA i kc) hb3).trans hT34 fun _ _ h => h;have hn5 : ¬ rblk kA i kc (w.heap.size + 1) := fun e => by have := h.kfr _ e; omega
 have p54 := hT4.obj p5 hn5;have hp := set_obj p54 9 (.slice kA' (i + 1) kc');have hT5 : Turned (· = w.heap.size + 1) w4 (w4.setCell ⟨w.heap.size + 1, 9, none⟩ (.slice kA' (i + 1) kc')) := (Turned.refl (· = w.heap.size + 1) w4).put' rfl 9 _;have hwr : w.heap.size <= wr.heap.size := h.tur.size
 have hnew : ∀ k, rblk kA' (i + 1) kc' k -> rblk kA i kc k \/ w2.heap.size <= k := fun k e => (hk k e).imp_right fun e => by
  rw [World.size_alloc] at e; omega
 have hE2 := hE.num;rw [with_with] at hE2
 have hown2 : ∀ k, (F.with' A' c' (l ++ l')).own k -> (F.with' A c l).own k \/ w1.heap.size <= k := by
  have h1 := hE.own;rw [with_with] at h1;exact h1
 refine ⟨p5, kA', kc', w4, hap, p54, hT4, ?_⟩;have hTall : Turned (fun k => rblk kA i kc k \/ k = w.heap.size + 1) w2 (w4.setCell ⟨w.heap.size + 1, 9, none⟩ (.slice kA' (i + 1) kc')) := (turned_mono hT4 fun k hk => .inl hk).trans hT5 fun k _ hk => .inr hk
 have hTx : Turned (fun k => (Pr S w 2 k \/ rblk kA i kc k) \/ (F.with' A c l).own k) wr (w4.setCell ⟨w.heap.size + 1, 9, none⟩ (.slice kA' (i + 1) kc')) :=
  (turned_mono hT2 fun k hk => hk.elim (fun e => .inl (.inl (.inl (by rw [e]; exact hS.sf)))) .inr).trans hTall fun k _ hk => hk.elim (fun e => .inl (.inr e)) fun e => .inl (.inl (.inr (by omega)))
 have hset : ∀ k, ((Pr S w 2 k \/ rblk kA' (i + 1) kc' k) \/ (F.with' A' c' (l ++ l')).own k) -> ((Pr S w 2 k \/ rblk kA i kc k) \/ (F.with' A c l).own k) \/ wr.heap.size <= k := fun k e => by
  rcases e with (e | e) | e
  ·exact .inl (.inl (.inl e))
  ·rcases hnew k e with e | e
   ·exact .inl (.inl (.inr e))
   ·have := hT2.size; exact .inr (by omega)
  ·rcases hown2 k e with e | e
   ·exact .inl (.inr e)
   ·have := hb.size; exact .inr (by omega)
 have hF2lt : w2.heap.size <= w4.heap.size := hT4.size;refine ⟨?_, ?_, by rw [List.length_append, h.kl]; rfl, fun j q' hj => ?_, ?_, fun k e => ?_, hcc, ?_, ?_, ?_, ?_, fun k e => ?_⟩
 ·refine hE2.go hTall (fun k hk hlt => ?_) (.inl (.inl hS.sm)) (.inl (.inl hS.sf)) (fun k hk => ?_) (fun k hk => ?_)
  ·rcases hk with hk | hk
   ·have := h.kfr k hk;have := lts hS.map;refine ⟨.inr hk, ?_, by omega⟩;show k ≠ F.mb;omega
   ·have := lts hS.map;refine ⟨.inl (.inr (by omega)), ?_, by omega⟩;show k ≠ F.mb;omega
  ·rcases hk with hk | hk
   ·exact .inl (.inl hk)
   ·exact (hnew k hk).imp_left .inr
  ·rcases hk with hk | hk
   ·rcases hk with hk | hk
    ·have := hS.old k hk; have := hTall.size; have := hT2.size; omega
    ·have := hTall.size; have := hT2.size; omega
   ·exact Nat.lt_of_lt_of_le (own_lt hown4 hk) hT5.size
 ·rw [nodL_take ht, List.length_append, h.len, hE.len]
 ·rw [<- List.append_assoc];by_cases hlt : j < ks.length
  ·rw [List.getElem?_append_left hlt] at hj;obtain ⟨d', h1, h2⟩ := h.kid j q' hj;exact ⟨d', ext_at h1 l', h2⟩
  ·have hl := (List.getElem?_eq_some_iff.1 hj).1;rw [List.length_append, List.length_singleton] at hl;have ej : j = ks.length := (by omega);subst ej;rw [List.getElem?_append_right (nlr _), Nat.sub_self] at hj;cases hj
   exact ⟨d, hE.nd, by rw [hE.tr, h.kl]; exact ht⟩
 ·have : intsV (ks ++ [q]) = intsV ks ++ [.int .i64 (q : Int)] := (by simp [intsV]);rw [this]
  exact ownsRow_turned hown4 hT5 fun k e1 e2 => by
   subst e2;rcases hk _ e1 with e | e
   ·exact hn5 e
   ·rw [World.size_alloc] at e;have := hT2.size;omega
 ·rcases hnew k e with e | e
  ·exact h.kfr k e
  ·have := hT2.size;omega
 ·rw [hp];rfl
 ·exact h.row.fresh' (S' := fun k => ((Pr S w 2 k \/ rblk kA i kc k) \/ (F.with' A c l).own k) \/ ((Pr S w 2 k \/ rblk kA' (i + 1) kc' k) \/ (F.with' A' c' (l ++ l')).own k)) (fun k e => e.elim .inl (hset k)) |>.turned (turned_mono hTx fun k hk => .inl hk) |>.weaken fun k hk => .inr hk
 ·have h1 : AllP (fun k => ((Pr S w 2 k \/ rblk kA i kc k) \/ (F.with' A c l).own k) \/ ((Pr S w 2 k \/ rblk kA' (i + 1) kc' k) \/ (F.with' A' c' (l ++ l')).own k)) wr (kidsOf t) ys := h.all.fresh' fun k e => e.elim .inl (hset k);have h2 := h1.turned (turned_mono hTx fun k hk => .inl hk);exact ⟨h2.1, fun j s y h3 h4 => (h2.2 j s y h3 h4).weaken fun k hk => .inr hk⟩
 ·have h1 : Turned (fun k => k = fb \/ F.own k) w w2 := h.tur.trans hT2 fun k hk e => e.elim .inl fun e => (h.own k e).elim .inr fun e => by omega
  exact h1.trans hTall fun k hk e => by
   rcases e with e | e
   ·have := h.kfr k e; omega
   ·omega
 ·rcases hown2 k e with e | e
  ·exact h.own k e
  ·have := hb.size;exact .inr (by omega)
open Go.RowKit Go.Deep Go.Sort
theorem tail_append {P : Program} {ops : Array Oper} {Q : Exit -> Act -> World -> Prop} {S : World -> Prop} {late : Nat -> Bool} {k : Nat} {ks : List Nat} {a : Act} {w w' : World} {s x : Operand} {t ty : TypeId} {ps : String} {af : Array Edge} {v u r : Value} (d : Tmp)
  (ho : ops[k]? = some { dst := some d, op := .call { callee := .builtin .append, args := #[s, x], argTypes := #[t, t] }, type := ty, pos := ps, after := af, guard := none })
  (hap : (Builtin.append_ #[t, t] ty #[v, u]).run P w = .ok r w') (hs : a.eval s = v) (hx : a.eval x = u) (h : (late k = false -> S w') /\ wpTail P ops Q S late ks (a.put (some d) r) w') : wpTail P ops Q S late (k :: ks) a w := by
 refine tail_step ho fun K hK => ?_;rw [if_pos (by rfl)];unfold Oper.wp;simp [execOp, resolve, invoke, builtin, hs, hx, hap, Result.andThen];exact hK _ _ h
theorem with_nil (F : FN) : F.with' F.A F.c [] = F := by
 unfold FN.with';simp
theorem owns_nil (w : World) : w.ownsRow 0 3 1 (.slice none 0 0) 0 [] := ⟨rfl, .inl ⟨rfl, rfl⟩⟩
theorem own_offat {S : Nat -> Prop} {w : World} {e : TypeId} {kA : Option Addr} {n kc : Nat} {vs : List Value} (h : w.ownsRow 0 e 1 (.slice kA n kc) n vs) (hS : ∀ k, rblk kA n kc k -> ¬ S k) : OffAt S w kA vs := by
 obtain ⟨A, c, e1, _, h2, _⟩ := own_form h;cases e1
 rcases h.2 with ⟨e, hn⟩ | ⟨k, cap, cur, e, _, _, _, _, _, _⟩
 ·left;exact List.eq_nil_of_length_eq_zero (by rw [h.1, hn])
 ·rcases h2 with h2 | ⟨g, o, e2, hr⟩
  ·exact .inl h2
  ·refine .inr ⟨g, o, e2, hS g ?_, hr⟩;unfold rblk;rw [e2];simp only [Value.slice.injEq] at e;rw [e2] at e;simp only [Option.some.injEq, Addr.mk.injEq] at e;rw [e.1.2.1];rfl
structure NumX (S : Nat -> Prop) (fb : Nat) (F : FN) (L : Nat) (t : PN) (x : NV) (w wx : World) (A : Option Addr) (c : Nat) (l : List ND) (kA : Option Addr) (kc : Nat) (ks : List Nat) (e : Nat) (g : Bool) (fn : Value) : Prop where
 num : NumAt (Pr S w 2) wx fb (F.with' A c l) L
 kids : OffAt (fun k => Pr S w 2 k \/ (F.with' A c l).own k) wx kA (intsV ks)
 o5 : wx.heap[w.heap.size + 1]? = some (.cells (x.cell9 kA ks.length kc e g fn) 106 (0, 0))
 tur : Turned (fun k => k = fb \/ F.own k) w wx
 len : l.length = nodL (kidsOf t)
 nq : NodeQ (F.nds ++ l) ⟨t, x, kA, kc, ks, e, g, fn⟩
 own : ∀ k, (F.with' A c l).own k -> F.own k \/ w.heap.size <= k
theorem NodeQ.alike {nds : List ND} {t : PN} {x : NV} {kA : Option Addr} {kc : Nat} {ks : List Nat} {e e' : Nat} {g g' : Bool} {fn fn' : Value} (h : NodeQ nds ⟨t, x, kA, kc, ks, e, g, fn⟩) : NodeQ nds ⟨t, x, kA, kc, ks, e', g', fn'⟩ := ⟨h.kind, h.set, h.lo, h.hi, h.num, h.len, h.kid, h.cap, h.many⟩
theorem isP_fields {S : Nat -> Prop} {w : World} {t : PN} {x : NV} (h : IsP S w t x) : x.kind = t.kind /\ x.set = t.set /\ x.lo = t.lo /\ x.hi = t.hi /\ x.num = t.num := by
 cases h
 exact ⟨rfl, rfl, rfl, rfl, rfl⟩
theorem NumI.behind {S : Nat -> Prop} {fb L i kc c : Nat} {F : FN} {t : PN} {x : NV} {A0 A kA : Option Addr} {ys : List NV} {l : List ND} {ks : List Nat} {w wr : World} (h : NumI S fb F L t x A0 ys w i wr A c l kA kc ks) (hS : NumAt S w fb F L) (hx : x.kind = t.kind /\ x.set = t.set /\ x.lo = t.lo /\ x.hi = t.hi /\ x.num = t.num) (hi : i = (kidsOf t).length) (hm : i <= 100000) : NumX S fb F L t x w wr A c l kA kc ks 0 false .nilFunc := by
 have hnP : ∀ k, rblk kA i kc k -> ¬ Pr S w 2 k := fun k e hp => by
  have := h.kfr k e;rcases hp with hp | hp
  ·have := hS.old k hp; omega
  ·omega
 refine ⟨h.num.weaken (.inl hS.sm) (.inl hS.sf) fun k hk => .inl hk, own_offat h.krow fun k e => ?_, by rw [h.kl]; exact h.o5, h.tur, ?_, ⟨hx.1, hx.2.1, hx.2.2.1, hx.2.2.2.1, hx.2.2.2.2, by rw [<- hi]; exact h.kl, h.kid, by show ks.length <= kc; rw [h.kl]; exact h.kcap, by show ks.length <= 100000; rw [h.kl]; exact hm⟩, h.own⟩
 ·rintro (hp | ho)
  ·exact hnP k e hp
  ·exact h.num.off k ho (.inr e)
 ·rw [h.len, List.take_of_length_le (by omega)]
theorem NumX.below {S : Nat -> Prop} {fb L kc c : Nat} {F : FN} {t : PN} {x : NV} {A kA : Option Addr} {l : List ND} {ks : List Nat} {e : Nat} {g : Bool} {fn : Value} {w wx wy : World} (h : NumX S fb F L t x w wx A c l kA kc ks e g fn) (hb : Below wx.heap.size wx wy) : NumX S fb F L t x w wy A c l kA kc ks e g fn :=
 ⟨h.num.below hb, h.kids.stays hb, bobj hb h.o5 (lts h.o5), h.tur.trans (Turned.of_below (S := fun _ => False) hb) fun _ _ hf => hf.elim, h.len, h.nq, h.own⟩
theorem NumX.set {S : Nat -> Prop} {fb L kc c : Nat} {F : FN} {t : PN} {x : NV} {A kA : Option Addr} {l : List ND} {ks : List Nat} {e : Nat} {g : Bool} {fn : Value} {w wx : World} (h : NumX S fb F L t x w wx A c l kA kc ks e g fn) (hS : NumAt S w fb F L) {i : Nat} {v : Value} {e' : Nat} {g' : Bool} {fn' : Value} (hc : (x.cell9 kA ks.length kc e g fn).setIfInBounds i v = x.cell9 kA ks.length kc e' g' fn') :
  NumX S fb F L t x w (wx.setCell ⟨w.heap.size + 1, i, none⟩ v) A c l kA kc ks e' g' fn' /\ Turned (· = w.heap.size + 1) wx (wx.setCell ⟨w.heap.size + 1, i, none⟩ v) := by
 have hT : Turned (· = w.heap.size + 1) wx (wx.setCell ⟨w.heap.size + 1, i, none⟩ v) := (Turned.refl (· = w.heap.size + 1) wx).put' rfl i v;have hp := set_obj h.o5 i v;rw [hc] at hp;have hmb := lts hS.map;have hfb := lts hS.obj;have hPr : ∀ k, k = w.heap.size + 1 -> Pr S w 2 k := fun k e => .inr (by omega);exact ⟨⟨h.num.go hT (fun k hk _ => ⟨hPr k hk, by show k ≠ F.mb; omega, by omega⟩) (.inl hS.sm) (.inl hS.sf) (fun k hk => .inl hk) fun k hk => Nat.lt_of_lt_of_le (h.num.old k hk) hT.size, h.kids.turned (turned_mono hT fun k hk => .inl (hPr k hk)), hp, h.tur.trans hT fun k hk e => by omega, h.len, h.nq.alike, h.own⟩, hT⟩
theorem NumX.push {S : Nat -> Prop} {fb L kc c : Nat} {F : FN} {t : PN} {x : NV} {A kA : Option Addr} {l : List ND} {ks : List Nat} {v : Value} {w wx : World} (h : NumX S fb F L t x w wx A c l kA kc ks (empT t) (grpT t) v) (hS : NumAt S w fb F L) (hv : FlowV (fun k => Pr S w 2 k \/ (F.with' A c l).own k) wx fb (F.nds ++ l) ⟨t, x, kA, kc, ks, empT t, grpT t, v⟩ v) (hfew : F.nds.length + nodT t <= 100000) {W : World} (hW : Below wx.heap.size wx W) {b : Nat} (hr : W.rangeAt b 0 (ND.cells ⟨t, x, kA, kc, ks, empT t, grpT t, v⟩)) :
  ∃ A' c' w', (Builtin.append_ #[98, 98] 98 #[.slice A (F.nds.length + l.length) c, .slice (some ⟨b, 0, none⟩) 1 1]).run Tryz.prog W = .ok (.slice A' (F.nds.length + l.length + 1) c') w' ∧
   w'.heap[fb]? = some (.cells #[.string F.s, .bool F.b, .int .i64 (L : Int), .slice A (F.nds.length + l.length) c, .map (some F.mb)] 100 (0, 0)) ∧
   (w'.setCell ⟨fb, 3, none⟩ (.slice A' (F.nds.length + l.length + 1) c')).heap[fb]? = some (.cells #[.string F.s, .bool F.b, .int .i64 (L : Int), .slice A' (F.nds.length + l.length + 1) c', .map (some F.mb)] 100 (0, 0)) /\ w'.heap[w.heap.size + 1]? = some (.cells (x.cell9 kA ks.length kc (empT t) (grpT t) v) 106 (0, 0)) ∧
   NumE S fb F L t w (.returned (.int .i64 ((F.nds.length + l.length : Nat) : Int))) (w'.setCell ⟨fb, 3, none⟩ (.slice A' (F.nds.length + l.length + 1) c')) := by
 obtain ⟨d, hd⟩ : ∃ d : ND, d = ⟨t, x, kA, kc, ks, empT t, grpT t, v⟩ := ⟨_, rfl⟩;rw [<- hd] at hv hr;obtain ⟨fid, bs, hf⟩ := flow_form hv
 have hnl : (F.with' A c l).nds.length = F.nds.length + l.length := by
  show (F.nds ++ l).length = _;rw [List.length_append]
 have hq := h.nq;have hlen := h.len;have hcnt := nod_cnt t
 have hP : NodeP ((F.with' A c l).nds ++ [d]) (F.with' A c l).nds.length d := by
  rw [hd]
  exact ⟨hq.kind, hq.set, hq.lo, hq.hi, hq.num, hq.len, fun j q hj => by
   obtain ⟨d', h1, h2⟩ := hq.kid j q hj
   exact ⟨(List.getElem?_eq_some_iff.1 h1).1, d', ext_at h1 _, h2⟩, rfl, rfl, hq.cap, hq.many⟩
 have hdf : d.fn = v := (by rw [hd]);have hdk : d.kA = kA /\ d.ks = ks := (by rw [hd]; exact ⟨rfl, rfl⟩);obtain ⟨A', c', w', h1, h2, h3, h4, h5, h6⟩ := h.num.push (d := d) (by rw [hdf, hf]; rfl) hP ⟨by rw [hdk.1, hdk.2]; exact h.kids, by rw [hdf]; exact hv⟩ (by rw [hnl]; omega) hW hr;rw [hnl] at h1 h2 h4 h5;rw [with_with] at h4 h6;have hfb := lts hS.obj;have h25 := h3.obj h.o5 fun e => h.num.off _ e (.inr (by omega));refine ⟨A', c', w', h1, h2, by rw [set_obj h2 3]; rfl, h25, A', c', l ++ [d], F.nds.length + l.length, d, rfl, h4.weaken hS.sm hS.sf fun k hk => .inl hk, ?_, ?_, ?_, ?_, ?_, ?_⟩
 ·rw [List.length_append, hlen, hcnt, List.length_singleton, Nat.add_comm]
 ·rw [List.length_append, List.length_singleton, Nat.add_assoc]
 ·rw [<- List.append_assoc, List.getElem?_append_right (by rw [List.length_append]; exact nlr _), List.length_append, Nat.sub_self];rfl
 ·rw [hd]
 ·exact h.tur.trans h5 fun k hk e => e.elim .inl fun e => (h.own k e).elim .inr fun e => by omega
 ·exact fun k e => (h6 k e).elim (h.own k) fun e => .inr (Nat.le_trans h.tur.size e)
open Go.RowKit Go.Deep Go.Sort
def Ix.cells (x : Ix) : List Value := [.int .i64 (x.f : Int), .slice x.A x.ws.length x.c]
def ixsV (xs : List Ix) : List Value := xs.flatMap Ix.cells
theorem ixsV_append (a b : List Ix) : ixsV (a ++ b) = ixsV a ++ ixsV b := by simp [ixsV]
theorem ixsV_len : ∀ xs : List Ix, (ixsV xs).length = xs.length * 2
 | [] => rfl
 | x :: r => by
  have := ixsV_len r;simp only [ixsV, List.flatMap_cons, List.length_append, List.length_cons] at this ⊢;simp only [Ix.cells, List.length_cons, List.length_nil];omega
theorem ixsV_at : ∀ {xs : List Ix} {i : Nat} {x : Ix}, xs[i]? = some x -> (ixsV xs)[i * 2]? = some (.int .i64 (x.f : Int)) /\ (ixsV xs)[i * 2 + 1]? = some (.slice x.A x.ws.length x.c)
 | [], i, x, h => by simp at h
 | a :: r, 0, x, h => by
  simp at h;subst h;exact ⟨rfl, rfl⟩
 | a :: r, i + 1, x, h => by
  have h2 := ixsV_at (xs := r) (i := i) (x := x) (by simpa using h);have e : ixsV (a :: r) = a.cells ++ ixsV r := rfl;rw [e, List.getElem?_append_right (by simp [Ix.cells]; omega), List.getElem?_append_right (by simp [Ix.cells]; omega)];simp only [Ix.cells, List.length_cons, List.length_nil];rw [show (i + 1) * 2 - (0 + 1 + 1) = i * 2 by omega, show (i + 1) * 2 + 1 - (0 + 1 + 1) = i * 2 + 1 by omega];exact h2
theorem ixsV_set : ∀ {xs : List Ix} {i : Nat} {y : Ix}, i < xs.length -> ((ixsV xs).set (i * 2) (.int .i64 (y.f : Int))).set (i * 2 + 1) (.slice y.A y.ws.length y.c) = ixsV (xs.set i y)
 | [], i, y, h => by simp at h
 | a :: r, 0, y, _ => rfl
 | a :: r, i + 1, y, h => by
  have h2 := ixsV_set (xs := r) (i := i) (y := y) (by simpa using h);have e : ixsV (a :: r) = .int .i64 (a.f : Int) :: .slice a.A a.ws.length a.c :: ixsV r := rfl;rw [List.set_cons_succ, e, show (i + 1) * 2 = (i * 2 + 1) + 1 by omega];simp only [List.set_cons_succ];rw [h2];rfl
theorem oneCell_ixs {xs : List Ix} : ∀ v ∈ ixsV xs, v.oneCell' = true := by
 intro v hv;obtain ⟨f, _, hv⟩ := List.mem_flatMap.1 hv;simp only [Ix.cells, List.mem_cons, List.not_mem_nil, or_false] at hv;rcases hv with rfl | rfl <;> rfl
set_option maxRecDepth 100000 in
theorem info_ix : (Tryz.prog.info? 68).map (fun i => (i.zero, i.size, i.bytes)) = some (some (.agg #[.int .i64 0, .slice none 0 0]), 2, 32) := by kernel_rfl
theorem elem_ix : ElemOf 153 68 2 32 := by
 obtain ⟨i, hi, hz, hs, hb⟩ := info_parts info_ix;exact ⟨Tryz.underlying153, ⟨i, _, hi, hz, hs, hb, rfl⟩, by omega, by omega⟩
structure GoalM (S : Nat -> Prop) (fb : Nat) (F : FN) (L : Nat) (w wr : World) (G : Option Addr) (c : Nat) (xs : List Ix) : Prop where
 fin : FindAt (fun k => S k \/ rblk G xs.length c k) wr fb F L
 row : wr.ownsRow 0 68 2 (.slice G xs.length c) xs.length (ixsV xs)
 sets : ∀ x ∈ xs, IxAt (fun k => S k \/ rblk G xs.length c k) F.N wr x
 fr : ∀ k, rblk G xs.length c k -> w.heap.size <= k
 sS : ∀ k, S k -> k < w.heap.size
 sm : S F.mb
 sf : S fb
 tur : Turned (· = F.mb) w wr
theorem GoalM.mb {S : Nat -> Prop} {fb L c : Nat} {F : FN} {w wr : World} {G : Option Addr} {xs : List Ix} (h : GoalM S fb F L w wr G c xs) {k : Nat} (hk : rblk G xs.length c k) : k ≠ F.mb /\ k ≠ fb := by
 have h1 := h.fr k hk;have h2 := h.sS _ h.sm;have h3 := h.sS _ h.sf;omega
theorem GoalM.got {S : Nat -> Prop} {fb L c : Nat} {F : FN} {w wr w' : World} {G : Option Addr} {xs : List Ix} (h : GoalM S fb F L w wr G c xs) (hf : FindAt (fun k => S k \/ rblk G xs.length c k) w' fb F L) (ht : Turned (· = F.mb) wr w') : GoalM S fb F L w w' G c xs :=
 ⟨hf, ownsRow_turned h.row ht fun k hk e => (h.mb hk).1 e, fun x hx => (h.sets x hx).turned (turned_mono ht fun k hk => by rw [hk]; exact .inl h.sm), h.fr, h.sS, h.sm, h.sf, turT h.tur ht⟩
theorem GoalM.below {S : Nat -> Prop} {fb L c : Nat} {F : FN} {w wr w' : World} {G : Option Addr} {xs : List Ix} (h : GoalM S fb F L w wr G c xs) (hb : Below wr.heap.size wr w') : GoalM S fb F L w w' G c xs := h.got (h.fin.below hb) (Turned.of_below hb)
theorem GoalM.lit {S : Nat -> Prop} {fb L : Nat} {F : FN} {w w1 : World} (hf : FindAt S w fb F L) (hb : Below w.heap.size w w1) {x : Ix} (hx : IxAt S F.N w1 x) : GoalM S fb F L w (w1.alloc (.cells #[.int .i64 (x.f : Int), .slice x.A x.ws.length x.c] 68)) (some ⟨w1.heap.size, 0, none⟩) 1 [x] := by
 have hr := World.ownsRow_lit (base := 0) (e := 68) (size := 2) w1 #[.int .i64 (x.f : Int), .slice x.A x.ws.length x.c] 1 (Nat.zero_le _) (by decide) rfl
 have hrb : ∀ k, rblk (some ⟨w1.heap.size, 0, none⟩) 1 1 k -> k = w1.heap.size := fun k e => by
  have e2 : some w1.heap.size = some k := e;injection e2 with e2;exact e2.symm
 have hbW := bW w1 (.cells #[.int .i64 (x.f : Int), .slice x.A x.ws.length x.c] 68);have hsz := hb.size;refine ⟨((hf.below hb).priv (S' := fun k => S k \/ rblk (some ⟨w1.heap.size, 0, none⟩) 1 1 k) hbW (fun k hk => .inl hk) (fun k hk => hk.imp_right fun e => by rw [hrb k e]; exact nlr _) fun k hk => ?_), hr, fun y hy => ?_, fun k e => by rw [hrb k e]; exact hb.size, hf.old, hf.sm, hf.sf, Turned.of_below (hb.trans (hbW.mono hb.size))⟩
 ·rw [World.size_alloc];rcases hk with hk | hk
  ·have := hf.old k hk; omega
  ·rw [hrb k hk]; omega
 ·have : y = x := (by simpa using hy);subst this;exact (hx.fresh (T := fun k => S k \/ rblk (some ⟨w1.heap.size, 0, none⟩) 1 1 k) fun k hk => hk.imp_right fun e => by rw [hrb k e]; exact nlr _).stays hbW
theorem GoalM.push {S : Nat -> Prop} {fb L c : Nat} {F : FN} {w wr : World} {G : Option Addr} {xs : List Ix} (h : GoalM S fb F L w wr G c xs) {y : Ix} (hy : IxAt (fun k => S k \/ rblk G xs.length c k) F.N wr y) (hn : xs.length <= 1000000) :
  ∃ G' c' w4, (Builtin.append_ #[153, 153] 153 #[.slice G xs.length c, .slice (some ⟨wr.heap.size, 0, none⟩) 1 1]).run Tryz.prog (wr.alloc (.cells #[.int .i64 (y.f : Int), .slice y.A y.ws.length y.c] 68)) = .ok (.slice G' (xs.length + 1) c') w4 /\ GoalM S fb F L w w4 G' c' (xs ++ [y]) := by
 have hb3 := bW wr (.cells #[.int .i64 (y.f : Int), .slice y.A y.ws.length y.c] 68);have hr3 : (wr.alloc (.cells #[.int .i64 (y.f : Int), .slice y.A y.ws.length y.c] 68)).ownsRow 0 68 2 (.slice G xs.length c) xs.length (ixsV xs) := ownsRow_turned (S := fun _ => False) h.row (Turned.of_below hb3) fun _ _ hf => hf
 obtain ⟨v', w4, hap, hown, hgr, hk⟩ := run_append_raw elem_ix hr3 (some ⟨wr.heap.size, 0, none⟩) 1 1 y.cells (.inr ⟨wr.heap.size, 0, rfl, fun j v hv => by
  rw [Nat.zero_add, obc (heap_alloc_new wr _), List.getElem?_toArray]
  exact hv⟩) rfl (fun u hu => oneCell_ixs (xs := [y]) u (by simpa [ixsV] using hu)) (by omega) (Nat.zero_le _)
 obtain ⟨G', c', e, hcc, _, _⟩ := own_form hown;subst e;have hT34 : Turned (rblk G xs.length c) (wr.alloc (.cells #[.int .i64 (y.f : Int), .slice y.A y.ws.length y.c] 68)) w4 := Turned.of_grown (S := rblk G xs.length c) hgr fun k hk => hk;have hT4 : Turned (rblk G xs.length c) wr w4 := (Turned.of_below (S := rblk G xs.length c) hb3).trans hT34 fun _ _ h => h;have hln : (xs ++ [y]).length = xs.length + 1 := (by simp)
 have hnew : ∀ k, rblk G' (xs ++ [y]).length c' k -> rblk G xs.length c k \/ wr.heap.size <= k := fun k e => by
  rw [hln] at e;exact (hk k e).imp_right fun e => by rw [World.size_alloc] at e; omega
 have hnS : ∀ k, (S k \/ rblk G' (xs ++ [y]).length c' k) -> (S k \/ rblk G xs.length c k) \/ wr.heap.size <= k := fun k e => by
  rcases e with e | e
  ·exact .inl (.inl e)
  ·exact (hnew k e).imp_left .inr
 have key : ∀ {z : Ix}, IxAt (fun k => S k \/ rblk G xs.length c k) F.N wr z -> IxAt (fun k => S k \/ rblk G' (xs ++ [y]).length c' k) F.N w4 z := fun {z} hz => by
  have h1 : IxAt (fun k => (S k \/ rblk G xs.length c k) \/ (S k \/ rblk G' (xs ++ [y]).length c' k)) F.N wr z := hz.fresh fun k e => e.elim .inl (hnS k);exact (h1.turned (turned_mono hT4 fun k hk => .inl (.inr hk))).weaken fun k hk => .inr hk
 refine ⟨G', c', w4, hap, h.fin.go hT4 (fun k hk _ => ⟨.inr hk, (h.mb hk).1, (h.mb hk).2⟩) (.inl h.sm) (.inl h.sf) hnS fun k hk => ?_, ?_, fun x hx => ?_, fun k e => ?_, h.sS, h.sm, h.sf, ?_⟩
 ·rcases hk with hk | hk
  ·have := h.sS k hk; have := h.tur.size; have := hT4.size; omega
  ·rw [hln] at hk;exact own_lt hown hk
 ·rw [hln, ixsV_append];have e : ixsV [y] = y.cells := (by simp [ixsV]);rw [e];exact hown
 ·rcases List.mem_append.1 hx with hx | hx
  ·exact key (h.sets x hx)
  ·have : x = y := (by simpa using hx);rw [this];exact key hy
 ·rcases hnew k e with e | e
  ·exact h.fr k e
  ·have := h.tur.size; omega
 ·exact h.tur.trans hT4 fun k hk e => by have := h.fr k e; omega
theorem GoalM.cell {S : Nat -> Prop} {fb L c : Nat} {F : FN} {w wr : World} {G : Option Addr} {xs : List Ix} (h : GoalM S fb F L w wr G c xs) {i : Nat} {x : Ix} (hx : xs[i]? = some x) : ∃ g, G = some ⟨g, 0, none⟩ /\ rblk G xs.length c g /\ g < wr.heap.size /\ wr.cell? ⟨g, i * 2, none⟩ = some (.int .i64 (x.f : Int)) /\ wr.cell? ⟨g, i * 2 + 1, none⟩ = some (.slice x.A x.ws.length x.c) /\ wr.frozen? ⟨g, i * 2, none⟩ = false /\ wr.frozen? ⟨g, i * 2 + 1, none⟩ = false := by
 obtain ⟨h1, h2⟩ := ixsV_at hx;have hil := (List.getElem?_eq_some_iff.1 hx).1;rcases h.row.2 with ⟨e, hn⟩ | ⟨g, cap, cur, e, hb, hg, hnc, hcm, hcs, htake⟩
 ·omega
 ·have hr := h.row;simp only [Value.slice.injEq, true_and] at e;obtain ⟨e1, e2⟩ := e;subst e1 e2;refine ⟨g, rfl, rfl, lts hg, ?_, ?_, World.ownsRow.frozenAt hr _, World.ownsRow.frozenAt hr _⟩
  ·rw [World.ownsRow.cellAt hr _ (by omega)]; exact h1
  ·rw [World.ownsRow.cellAt hr _ (by omega)]; exact h2
theorem GoalM.put {S : Nat -> Prop} {fb L c g : Nat} {F : FN} {w wr : World} {xs : List Ix} (h : GoalM S fb F L w wr (some ⟨g, 0, none⟩) c xs) {y : Ix} (hy : IxAt (fun k => S k \/ rblk (some ⟨g, 0, none⟩) xs.length c k) F.N wr y) {i : Nat} (hi : i < xs.length) :
  GoalM S fb F L w ((wr.setCell ⟨g, i * 2, none⟩ (.int .i64 (y.f : Int))).setCell ⟨g, i * 2 + 1, none⟩ (.slice y.A y.ws.length y.c)) (some ⟨g, 0, none⟩) c (xs.set i y) := by
 have hrow := (World.ownsRow.stored (World.ownsRow.stored h.row (i * 2) (.int .i64 (y.f : Int))).1 (i * 2 + 1) (.slice y.A y.ws.length y.c)).1;rw [ixsV_set hi] at hrow;have hT : Turned (· = g) wr ((wr.setCell ⟨g, i * 2, none⟩ (.int .i64 (y.f : Int))).setCell ⟨g, i * 2 + 1, none⟩ (.slice y.A y.ws.length y.c)) := ((Turned.refl (· = g) wr).put' rfl (i * 2) _).put' rfl (i * 2 + 1) _;have hg : rblk (some ⟨g, 0, none⟩) xs.length c g := rfl;have hln : (xs.set i y).length = xs.length := List.length_set;have hTS : ∀ k, k = g -> S k \/ rblk (some ⟨g, 0, none⟩) xs.length c k := fun k e => by rw [e]; exact .inr hg
 refine ⟨?_, by rw [hln]; exact hrow, fun x hx => ?_, by rw [hln]; exact h.fr, h.sS, h.sm, h.sf, ?_⟩
 ·rw [hln];exact h.fin.go hT (fun k hk _ => ⟨hTS k hk, by rw [hk]; exact (h.mb hg).1, by rw [hk]; exact (h.mb hg).2⟩) (.inl h.sm) (.inl h.sf) (fun k hk => .inl hk) fun k hk => Nat.lt_of_lt_of_le (h.fin.old k hk) hT.size
 ·rw [hln];rcases List.mem_or_eq_of_mem_set hx with hx | hx
  ·exact (h.sets x hx).turned (turned_mono hT hTS)
  ·rw [hx];exact hy.turned (turned_mono hT hTS)
 ·exact h.tur.trans hT fun k hk e => by have := h.fr g hg; omega
theorem AllR.less {L L' : Nat} {r : Rel} {P R : Nat -> Bool} (h : AllR L r P R) (hl : L' <= L) : AllR L' r P R := ⟨h.snd, fun i j a b c => h.cpl i j a (Nat.le_trans b hl) c⟩
open Go.RowKit Go.Deep Go.Sort
theorem GoalM.far {S : Nat -> Prop} {fb L c B : Nat} {F : FN} {w wr w' : World} {G : Option Addr} {xs : List Ix} (h : GoalM S fb F L w wr G c xs) (ht : Turned (fun k => k = F.mb \/ B <= k) wr w') (hB : wr.heap.size <= B) (hf : FindAt (fun k => S k \/ rblk G xs.length c k) w' fb F L) : GoalM S fb F L w w' G c xs := by
 refine ⟨hf, ownsRow_turned h.row ht fun k hk e => ?_, fun x hx => ?_, h.fr, h.sS, h.sm, h.sf, h.tur.trans ht fun k hk e => ?_⟩
 ·rcases e with e | e
  ·exact (h.mb hk).1 e
  ·have := own_lt h.row hk; omega
 ·have h1 : IxAt (fun k => (S k \/ rblk G xs.length c k) \/ B <= k) F.N wr x := (h.sets x hx).fresh fun k hk => hk.imp_right fun e => by omega
  exact (h1.turned (turned_mono ht fun k hk => hk.elim (fun e => .inl (.inl (by rw [e]; exact h.sm))) .inr)).weaken fun k hk => .inl hk
 ·rcases e with e | e
  ·exact e
  ·have := h.tur.size; omega
structure FwdX (N z : Nat) (rs : List Rel) (a j : Nat) (x : Ix) : Prop where
 fwd : FwdR z rs a j x.mem
 low : x.low a
 inN : InN N x.mem
structure RG1 (S : Nat -> Prop) (fb : Nat) (F : FN) (L : Nat) (rs : List Rel) (a z : Nat) (w : World) (i : Nat) (wr : World) (G : Option Addr) (c : Nat) (xs : List Ix) : Prop where
 gm : GoalM S fb F L w wr G c xs
 len : xs.length = i + 1
 fwd : ∀ (j : Nat) (x : Ix), xs[j]? = some x -> FwdX F.N z rs a j x
structure RG2 (S : Nat -> Prop) (fb : Nat) (F : FN) (L : Nat) (rs : List Rel) (a z n : Nat) (w : World) (k : Nat) (wr : World) (G : Option Addr) (c : Nat) (xs : List Ix) : Prop where
 gm : GoalM S fb F L w wr G c xs
 len : xs.length = n + 1
 fwd : ∀ (j : Nat) (x : Ix), j < k -> xs[j]? = some x -> FwdX F.N z rs a j x
 good : ∀ (j : Nat) (x : Ix), k <= j -> xs[j]? = some x -> GoodR rs a z j x.mem
structure RG3 (S : Nat -> Prop) (fb : Nat) (F : FN) (L B p a : Nat) (r : Rel) (X B' : Nat -> Bool) (w0 : World) (c : Nat) (wr : World) (y : Ix) : Prop where
 stp : Stp S fb F L wr B p y
 fy : y.f = a / 64
 tur : Turned (fun k => k = F.mb \/ B <= k) w0 wr
 is : ∀ j, y.mem j = true ↔ j < c /\ X j = true /\ ∃ e, r j e = true /\ B' e = true
theorem last_ex {L i : Nat} {r : Rel} {X Y : Ix} {q : Int} (hX : AllR L r (onlyB i) X.mem) (hY : ∀ e, Y.mem e = true -> e <= L) (hl : LastIs X Y q) : (0 <= q ↔ ∃ e, r i e = true /\ Y.mem e = true) := by
 constructor
 ·intro h0;rcases hl with ⟨h, _⟩ | ⟨j, h, h1, h2, _⟩
  ·omega
  ·exact ⟨j, (hX.one (hY j h2)).1 h1, h2⟩
 ·rintro ⟨e, h1, h2⟩;rcases hl with ⟨h, h3⟩ | ⟨j, h, _⟩
  ·have := h3 e ((hX.one (hY e h2)).2 h1);rw [h2] at this;cases this
  ·omega
theorem RG3.go_no {S : Nat -> Prop} {fb L B p a c i : Nat} {F : FN} {r : Rel} {X B' : Nat -> Bool} {w0 wr w' : World} {y : Ix} (h : RG3 S fb F L B p a r X B' w0 c wr y) (hs : Stp S fb F L w' B p y) (ht : Turned (· = F.mb) wr w') (hn : ∀ k, c <= k -> k < i -> X k = false) (hi : ¬ ∃ e, r i e = true /\ B' e = true) (hci : c <= i) : RG3 S fb F L B p a r X B' w0 (i + 1) w' y :=
 ⟨hs, h.fy, h.tur.trans ht fun _ _ e => .inl e, fun j => by
  rw [h.is];constructor
  ·rintro ⟨h1, h2⟩;exact ⟨by omega, h2⟩
  ·rintro ⟨h1, h2, h3⟩;refine ⟨?_, h2, h3⟩;rcases Nat.lt_or_ge j c with e | e
   ·exact e
   ·rcases Nat.lt_or_ge j i with e2 | e2
    ·rw [hn j e e2] at h2; cases h2
    ·have : j = i := (by omega);subst this
     exact absurd h3 hi⟩
theorem RG3.go_yes {S : Nat -> Prop} {fb L B p a c i : Nat} {F : FN} {r : Rel} {X B' : Nat -> Bool} {w0 wr w' w2 : World} {y : Ix} (h : RG3 S fb F L B p a r X B' w0 c wr y) (hs : Stp S fb F L w' B p y) (ht : Turned (· = F.mb) wr w') (hn : ∀ k, c <= k -> k < i -> X k = false) (hX : X i = true) (hi : ∃ e, r i e = true /\ B' e = true) (hci : c <= i) (hiN : i <= F.N) (hai : a <= i)
  {ws' : List Nat} {A' : Option Addr} {c' : Nat} (hO : OwnI w2 B p ⟨y.f, ws', A', c'⟩) (hm : ∀ j, memN y.f ws' j = (memN y.f y.ws j || decide (j = i))) (hl : ws'.length = max y.ws.length (i / 64 - y.f + 1)) (hT : Turned (Tch p y) w' w2) (hk : ∀ k, (Ix.sl ⟨y.f, ws', A', c'⟩).ownBlock = some k -> y.sl.ownBlock = some k \/ w'.heap.size <= k) :
  RG3 S fb F L B p a r X B' w0 (i + 1) w2 ⟨y.f, ws', A', c'⟩ := by
 have hyf : y.f <= i / 64 := (by rw [h.fy]; exact Nat.div_le_div_right hai);obtain ⟨h1, _⟩ := hs.add hO hT hk hl (by have : i / 64 <= F.N / 64 := Nat.div_le_div_right hiN; omega);refine ⟨h1, h.fy, (h.tur.trans ht fun _ _ e => .inl e).trans hT fun k _ e => .inr (hs.tch e), fun j => ?_⟩;show memN y.f ws' j = true ↔ _;rw [hm, Bool.or_eq_true, decide_eq_true_eq];have := h.is j;constructor
 ·rintro (e | e)
  ·obtain ⟨h2, h3⟩ := this.1 e;exact ⟨by omega, h3⟩
  ·subst e;exact ⟨by omega, hX, hi⟩
 ·rintro ⟨h2, h3, h4⟩;rcases Nat.lt_or_ge j c with e | e
  ·exact .inl (this.2 ⟨e, h3, h4⟩)
  ·rcases Nat.lt_or_ge j i with e2 | e2
   ·rw [hn j e e2] at h3; cases h3
   ·exact .inr (by omega)
theorem RG3.below {S : Nat -> Prop} {fb L B p a c : Nat} {F : FN} {r : Rel} {X B' : Nat -> Bool} {w0 wr w' : World} {y : Ix} (h : RG3 S fb F L B p a r X B' w0 c wr y) (hb : Below wr.heap.size wr w') : RG3 S fb F L B p a r X B' w0 c w' y :=
 ⟨h.stp.turned (h.stp.fin.below hb) (Turned.of_below hb), h.fy, h.tur.trans (Turned.of_below (S := fun _ => False) hb) fun _ _ h => h.elim, h.is⟩
theorem GoalM.at3 {S : Nat -> Prop} {fb L c B p a cc : Nat} {F : FN} {w w0 wr : World} {G : Option Addr} {xs : List Ix} {r : Rel} {X B' : Nat -> Bool} {y : Ix} (h : GoalM S fb F L w w0 G c xs) (h3 : RG3 (fun k => S k \/ rblk G xs.length c k) fb F L B p a r X B' w0 cc wr y) (hB : w0.heap.size <= B) : GoalM S fb F L w wr G c xs :=
 h.far h3.tur hB (h3.stp.fin.weaken (.inl h.sm) (.inl h.sf) fun _k hk => .inl hk)
theorem get_set {α : Type} {xs : List α} {i j : Nat} {y x : α} (h : (xs.set i y)[j]? = some x) (hi : i < xs.length) : (j = i /\ x = y) \/ (j ≠ i /\ xs[j]? = some x) := by
 by_cases e : j = i
 ·subst e;rw [List.getElem?_set_self hi] at h;injection h with h;exact .inl ⟨rfl, h.symm⟩
 ·rw [List.getElem?_set_ne (fun e2 => e e2.symm)] at h;exact .inr ⟨e, h⟩
structure RGood3 (S : Nat -> Prop) (fb : Nat) (F : FN) (L : Nat) (w w' : World) (G : Option Addr) (c : Nat) (xs : List Ix) : Prop where
 fin : FindAt S w' fb F L
 row : OffAt S w' G (ixsV xs)
 cap : xs.length <= c
 sets : ∀ x ∈ xs, IxAt S F.N w' x
 tur : Turned (· = F.mb) w w'
theorem GoalM.out {S : Nat -> Prop} {fb L c : Nat} {F : FN} {w wr : World} {G : Option Addr} {xs : List Ix} (h : GoalM S fb F L w wr G c xs) : RGood3 S fb F L w wr G c xs := by
 obtain ⟨A, c', e, hc, hr, _⟩ := own_form h.row;cases e
 refine ⟨h.fin.weaken h.sm h.sf fun k hk => .inl hk, ?_, hc, fun x hx => (h.sets x hx).weaken fun k hk => .inl hk, h.tur⟩;rcases hr with hr | ⟨g, o, e, hr⟩
 ·exact .inl hr
 ·refine .inr ⟨g, o, e, fun hs => ?_, hr⟩;have h1 := h.fr g (by rw [e]; rfl);have := h.sS g hs;omega
def RowGE (S : Nat -> Prop) (fb : Nat) (F : FN) (L : Nat) (rs : List Rel) (a z n : Nat) (w : World) (e : Ending) (w' : World) : Prop := ∃ G c xs, e = .returned (.slice G (n + 1) c) /\ RGood3 S fb F L w w' G c xs /\ xs.length = n + 1 /\ ∀ (j : Nat) (x : Ix), xs[j]? = some x -> GoodR rs a z j x.mem
theorem RG1.go {S : Nat -> Prop} {fb L a z i c c' : Nat} {F : FN} {rs : List Rel} {r : Rel} {w wr w' : World} {G G' : Option Addr} {xs : List Ix} {x y : Ix} (h : RG1 S fb F L rs a z w i wr G c xs) (hg : GoalM S fb F L w w' G' c' (xs ++ [y])) (hr : rs[i]? = some r) (hf : FitR F.N r) (hx : xs[i]? = some x) (hy : AllR L r x.mem y.mem) (hl : y.low a) (hzL : z <= L) : RG1 S fb F L rs a z w (i + 1) w' G' c' (xs ++ [y]) := by
 refine ⟨hg, by rw [List.length_append, h.len]; rfl, fun j u hu => ?_⟩;by_cases hj : j < xs.length
 ·rw [List.getElem?_append_left hj] at hu;exact h.fwd j u hu
 ·have hl2 := (List.getElem?_eq_some_iff.1 hu).1;rw [List.length_append, List.length_singleton] at hl2;have e : j = i + 1 := (by have := h.len; omega);subst e;rw [List.getElem?_append_right (by rw [h.len]; exact nlr _), h.len, Nat.sub_self] at hu;cases hu
  have hxf := h.fwd i x hx;refine ⟨hxf.fwd.step hr hf (hy.less hzL), hl, fun j hj => ?_⟩;obtain ⟨k, k1, k2⟩ := hy.snd j hj;exact (hf k j k2).2 (hxf.inN k k1)
theorem RG1.last {S : Nat -> Prop} {fb L a z n c : Nat} {F : FN} {rs : List Rel} {w wr w' : World} {G : Option Addr} {xs : List Ix} {y : Ix} (h : RG1 S fb F L rs a z w n wr G c xs) (hg : GoalM S fb F L w w' G c (xs.set n y)) (hn : n = rs.length) (hrel : rowB rs a z = true) (hy : y.mem = onlyB z) : RG2 S fb F L rs a z n w n w' G c (xs.set n y) := by
 refine ⟨hg, by rw [List.length_set, h.len], fun j u hj hu => ?_, fun j u hj hu => ?_⟩
 ·rcases get_set hu (by rw [h.len]; omega) with ⟨e, _⟩ | ⟨_, e⟩
  ·omega
  ·exact h.fwd j u e
 ·rcases get_set hu (by rw [h.len]; omega) with ⟨e, e2⟩ | ⟨e1, e⟩
  ·rw [e, e2, hy, hn];exact GoodR.last hrel
  ·have := (List.getElem?_eq_some_iff.1 e).1;have := h.len;omega
theorem RG2.go {S : Nat -> Prop} {fb L a z n k c : Nat} {F : FN} {rs : List Rel} {r : Rel} {w wr w' : World} {G : Option Addr} {xs : List Ix} {x x' y : Ix} (h : RG2 S fb F L rs a z n w (k + 1) wr G c xs) (hg : GoalM S fb F L w w' G c (xs.set k y)) (hr : rs[k]? = some r) (hf : FitR F.N r) (hx : xs[k]? = some x) (hx' : xs[k + 1]? = some x') (hB : ∀ i, y.mem i = true ↔ x.mem i = true /\ ∃ e, r i e = true /\ x'.mem e = true) : RG2 S fb F L rs a z n w k w' G c (xs.set k y) := by
 have hkl := (List.getElem?_eq_some_iff.1 hx).1;refine ⟨hg, by rw [List.length_set, h.len], fun j u hj hu => ?_, fun j u hj hu => ?_⟩
 ·rcases get_set hu hkl with ⟨e, _⟩ | ⟨_, e⟩
  ·omega
  ·exact h.fwd j u (by omega) e
 ·rcases get_set hu hkl with ⟨e, e2⟩ | ⟨e1, e⟩
  ·rw [e, e2];exact GoodR.step (h.fwd k x (by omega) hx).fwd hr hf (h.good (k + 1) x' (nlr _) hx') hB
  ·exact h.good j u (by omega) e
open Go.RowKit Go.Deep Go.Sort
set_option maxRecDepth 100000 in
set_option maxHeartbeats 2000000 in
theorem rowGoals_is {S : Nat -> Prop} {w : World} {fb L k a z : Nat} {F : FN} {d : ND} {v : Value} (h : FindAt S w fb F L) (hd : F.nds[k]? = some d) (hk : d.x.kind = 2) (hv : NdP F k v) (haz : a <= z) (hzL : z <= L) (hrel : F.rel d.t a z = true) :
  Calls Tryz.prog 105 #[ptrV fb, v, .int .i64 (a : Int), .int .i64 (z : Int)] w (RowGE S fb F L (semL F.T F.b (kidsOf d.t)) a z d.ks.length w) := by
 obtain ⟨gn, on, hA, hve, hcell⟩ := ndp_cells h hd hv;subst hve;have hn := h.dat k d hd;have hR : F.rel d.t = rowB (semL F.T F.b (kidsOf d.t)) := (by rw [h.rel hd, hk]; rfl);rw [hR] at hrel;have hlen : d.ks.length = (semL F.T F.b (kidsOf d.t)).length := (by rw [semL_eq, List.length_map, hn.len]);have hzN : z <= F.N := Nat.le_trans hzL h.lim;have hsm := h.small;have HK := lh fun (i : Nat) (hi : i < d.ks.length) => h.kidAt hd hi
 have HCN := lh fun (T : Nat -> Prop) (V : World) (hT : ∀ j, S j -> T j) (hV : FindAt T V fb F L) => (show gn < V.heap.size /\ V.cell? ⟨gn, on + k * 13 + 9, none⟩ = some (.slice d.kA d.ks.length d.kc) from by
  have h1 := hV.weaken (h.sm) (h.sf) hT
  exact ⟨(hcell V h1).1, (hcell V h1).2 9 _ rfl⟩)
 have HO := lh fun (i : Nat) (hi : i <= F.N) (V : World) => only_is i F.N hi (by omega) V;have HE := lh fun (T : Nat -> Prop) (V : World) (l : Nat) (x : Ix) (q : Nat) (d' : ND) (hq : F.nds[q]? = some d') (ha : Ask T fb F L l V x) => ends_is ha hq (long_all q);have HP := lh (aI hrel (aI hlen (aI hzN (aI hsm (aI haz hzL)))));have HRS := lh (show ∀ r ∈ semL F.T F.b (kidsOf d.t), FitR F.N r from semL_fit F (kidsOf d.t));have HH := lh h;obtain ⟨nk, hnk⟩ : ∃ n, n = d.ks.length := ⟨_, rfl⟩;have HNK := lh (aI hnk (show nk <= 100000 from by rw [hnk]; exact hn.many));rw [<- hnk] at HK HCN ⊢;obtain ⟨kA, hkA⟩ : ∃ kA, kA = d.kA := ⟨_, rfl⟩;rw [<- hkA] at HK HCN;have HO1 := lh (HO.out a (by omega) w);clear h hd hk hv haz hzL hrel hn hR hlen hzN hsm hA hcell hnk hkA;go_enter Tryz.func105, Tryz.ntmps105;go_upto_region 1 with fail;go_wp2_with fail;go_at_call 30;with_reducible refine HO1.out.mono ?_
 rintro e w1 ⟨x0, he, hm0, hb1⟩;obtain ⟨n0, hn0⟩ : ∃ n, n = x0.ws.length := ⟨_, rfl⟩;have hv0 : x0.v = .agg #[.int .i64 (x0.f : Int), .slice x0.A n0 x0.c] := (by unfold Ix.v; rw [hn0]);rw [hv0] at he;subst he;have hG0 := GoalM.lit HH.out hb1 (hm0.at'.weaken fun q hq => HH.out.old q hq);rw [<- hn0] at hG0;have hx0 : x0.mem = onlyB a := funext fun q => by rw [hm0.is q]; rfl
 have HR0 := lh (show RG1 S fb F L (semL F.T F.b (kidsOf d.t)) a z w 0 (w1.alloc (.cells #[.int .i64 (x0.f : Int), .slice x0.A n0 x0.c] 68)) (some ⟨w1.heap.size, 0, none⟩) 1 [x0] from
  ⟨hG0, rfl, fun j x hj => by
   match j, hj with
   | 0, hj =>
    simp at hj;subst hj;exact ⟨by rw [hx0]; exact FwdR.zero _ _ _, hm0.low, fun q hq => by rw [hx0, onlyB_iff] at hq; rw [hq]; have := HP.out.2.2.1; have := HP.out.2.2.2.2.1; omega⟩
   | j + 1, hj => simp at hj⟩)
 clear hm0 hb1 hn0 hv0 hG0 hx0;go_upto_region 2 with fail;obtain ⟨W1, hW1⟩ : ∃ W, W = w1.alloc (.cells #[.int .i64 (x0.f : Int), .slice x0.A n0 x0.c] 68) := ⟨_, rfl⟩;rw [<- hW1] at HR0 ⊢;obtain ⟨gnl, c9⟩ := HCN.out _ _ (fun j hj => .inl hj) HR0.out.gm.fin;clear hW1;go_upto_region 3 with fail;go_loopw [9, 10, 11, 23] (fun gv _ _ iv wr => ∃ (i : Nat) (G : Option Addr) (c : Nat) (xs : List Ix), iv = .int .i64 (i : Int) /\ gv = .slice G (i + 1) c /\ i <= nk /\ Hid (RG1 S fb F L (semL F.T F.b (kidsOf d.t)) a z w i wr G c xs)) (fun _ _ _ iv _ => nk - (intOf iv).toNat)
 case atStart => exact ⟨0, _, _, _, rfl, rfl, Nat.zero_le _, HR0⟩
 case round =>
  obtain ⟨i, G, c, xs, rfl, rfl, hin, HY⟩ := hrel;by_cases hlt : i < nk
  ·obtain ⟨q, d', hq, hqk, hd', htk, hkc⟩ := HK.out i hlt;have hfw := HY.out.gm.fin.weaken HH.out.sm HH.out.sf (fun j hj => .inl hj);obtain ⟨gk, ok, hkA, hgk, hck⟩ := hkc wr hfw;have hil : i < xs.length := (by rw [HY.out.len]; exact Nat.lt_succ_self _);obtain ⟨xi, hxi⟩ : ∃ x, xs[i]? = some x := ⟨xs[i]'hil, List.getElem?_eq_getElem _⟩;obtain ⟨g, hGg, hgb, hgl, m0, m1, _, _⟩ := HY.out.gm.cell hxi;obtain ⟨ni, hni⟩ : ∃ n, n = xi.ws.length := ⟨_, rfl⟩;have hvi : xi.v = .agg #[.int .i64 (xi.f : Int), .slice xi.A ni xi.c] := (by unfold Ix.v; rw [hni]);have hfx := HY.out.fwd i xi hxi;have hex := HE.out _ wr a xi q d' hd' ⟨HY.out.gm.fin, HY.out.gm.sets xi (List.mem_of_getElem? hxi), hfx.inN, hfx.low⟩;rw [hvi] at hex;have HEX := lh hex;rw [<- hni] at m1;have HQ := lh (aI hd' (aI htk (aI hlt hxi)));have hiI : (i : Int) < (nk : Int) := (by omega);have hi0 : (0 : Int) <= (i : Int) := (by omega);have hi1 : (i : Int) < ((i + 1 : Nat) : Int) := (by omega);have hi2 : i < i + 1 := (by omega);have hib : i < 1099511627776 := (by have := HNK.out.2; omega);subst hkA hGg;clear hq hqk hd' htk hkc hlt hin hfw hil hxi hfx hex hni hvi hgb c9;go_wp2_with fail;go_at_call 29;with_reducible refine HEX.out.mono ?_
   rintro e w2 ⟨y, he, hg⟩;obtain ⟨ny, hny⟩ : ∃ n, n = y.ws.length := ⟨_, rfl⟩;have hvy : y.v = .agg #[.int .i64 (y.f : Int), .slice y.A ny y.c] := (by unfold Ix.v; rw [hny]);rw [hvy] at he;subst he;have hgm := HY.out.gm.got hg.fin hg.tur;obtain ⟨G', c', w4, hap, hgm4⟩ := hgm.push hg.at' (by rw [HY.out.len]; have := HNK.out.2; omega);rw [<- hny, HY.out.len] at hap;have HA := lh hap;have hr : (semL F.T F.b (kidsOf d.t))[i]? = some (F.rel d'.t) := (by rw [semL_at, HQ.out.2.1]; rfl);have HG := lh (HY.out.go hgm4 hr (F.fit d'.t) HQ.out.2.2.2 hg.is hg.low HP.out.2.2.2.2.2);clear hg hny hvy hgm hap hgm4 hr m0 m1 hck
   go_wp2_with (refine wpList_append_to 37 HA.out rfl rfl ?_)
   go_roundw
   case rel => exact ⟨i + 1, G', c', xs ++ [y], by go_num, rfl, by have := HQ.out.2.2.1; omega, HG⟩
   case measure =>
    have := HQ.out.2.2.1;show nk - (((i : Int) + 1).toNat) < nk - (i : Int).toNat;omega
  ·have hi : nk = i := (by omega);subst hi;have hiI : ¬ (nk : Int) < (nk : Int) := Int.lt_irrefl _;have hil : nk < xs.length := (by rw [HY.out.len]; exact Nat.lt_succ_self _);obtain ⟨xi, hxi⟩ : ∃ x, xs[nk]? = some x := ⟨xs[nk]'hil, List.getElem?_eq_getElem _⟩;obtain ⟨g, hGg, hgb, hgl, _, _, _, _⟩ := HY.out.gm.cell hxi;subst hGg;have HOZ := lh (HO.out z HP.out.2.2.1 wr.drew);obtain ⟨gnl2, c92⟩ := HCN.out _ _ (fun j hj => .inl hj) (HY.out.gm.below (bD wr 1)).fin;have HX := lh hxi;have hi0 : (0 : Int) <= (nk : Int) := (by omega);have hi1 : (nk : Int) < ((nk + 1 : Nat) : Int) := (by omega);have hi2 : nk < nk + 1 := (by omega);have hi3 : (nk : Int) < (nk : Int) + 1 := (by omega);clear hin hil hxi hgb hgl hlt c9;go_upto_region 7 with fail;refine wp_region_heads (fun wx => wx.cell? ⟨gn, on + k * 13 + 9, none⟩ = some (.slice kA nk d.kc)) [0, 1, 2, 3, 4, 5, 6] [7, 8, 9] [9] (by kernel_rfl) (by kernel_rfl) (by kernel_rfl) (fun c a d v w h => hq_body (P := Tryz.prog) (fn := Tryz.f105) c a d v w h) (by kernel_rfl) c92 ?_
   iterate 7
    refine heads_step (v := ?_) rfl (by rfl) (fun wx hSw => ?_) ?_;rotate_left
    ·go_simp;try with_reducible rfl
    simp only [Act.put, List.setIfInBounds_toArray]
   refine heads_end ?_;refine tail_step rfl (fun K hK => ?_);go_simp;refine HOZ.out.mono ?_;rintro e w2 ⟨xz, he, hmz, hb2⟩;obtain ⟨nz, hnz⟩ : ∃ n, n = xz.ws.length := ⟨_, rfl⟩;have hvz : xz.v = .agg #[.int .i64 (xz.f : Int), .slice xz.A nz xz.c] := (by unfold Ix.v; rw [hnz]);rw [hvz] at he;subst he;have hb02 := (bD wr 1).trans hb2;have hgm2 := HY.out.gm.below hb02;obtain ⟨g', hGg', _, hgl2, m0, m1, f0, f1⟩ := hgm2.cell HX.out;cases hGg'
   have hgm3 := hgm2.put (y := xz) (hmz.at'.weaken fun q hq => hgm2.fin.old q hq |> fun h => by have := hb02.size; have h2 := HY.out.gm.fin.old q hq; exact h2) (i := nk) (by rw [HY.out.len]; exact Nat.lt_succ_self _);have hxz : xz.mem = onlyB z := funext fun q => by rw [hmz.is q]; rfl
   have hRG2 := HY.out.last hgm3 (by rw [HNK.out.1]; exact HP.out.2.1) HP.out.1 hxz;rw [<- hnz] at hRG2;have HR2 := lh hRG2;have c93 := (HCN.out _ _ (fun j hj => .inl hj) hgm2.fin).2;refine hK _ _ ⟨fun _ => c93, ?_⟩;clear hK K hmz hb2 hnz hvz hb02 hgm2 hgm3 hxz hRG2;try simp only [Act.put, List.setIfInBounds_toArray, List.set_cons_zero, List.set_cons_succ]
   refine tail_step rfl (fun K hK => ?_);go_simp;refine hK _ _ ⟨fun _ => c93, ?_⟩;clear hK K;try simp only [Act.put, List.setIfInBounds_toArray, List.set_cons_zero, List.set_cons_succ]
   refine tail_step rfl (fun K hK => ?_);go_simp;refine hK _ _ ⟨fun h => by simp at h, ?_⟩;clear hK K;try simp only [Act.put, List.setIfInBounds_toArray, List.set_cons_zero, List.set_cons_succ]
   refine tail_end ?_;obtain ⟨W3, hW3⟩ : ∃ W, W = (w2.setCell ⟨g, nk * 2, none⟩ (.int .i64 (xz.f : Int))).setCell ⟨g, nk * 2 + 1, none⟩ (.slice xz.A nz xz.c) := ⟨_, rfl⟩;rw [<- hW3] at HR2 ⊢;have c94 := (HCN.out _ _ (fun j hj => .inl hj) HR2.out.gm.fin).2;have gnl4 := (HCN.out _ _ (fun j hj => .inl hj) HR2.out.gm.fin).1;obtain ⟨q0, hq0⟩ : ∃ q0, q0 = (nk : Int) - 1 := ⟨_, rfl⟩;have hwq : IntKind.i64.wrap ((nk : Int) - 1) = q0 := (by rw [hq0]; exact IntWalk.i64_in _ (by have := HNK.out.2; omega));have HQ0 := lh hq0;clear hW3 m0 m1 f0 f1 c93 hq0;go_upto_region 9 with fail;clear hwq;go_loopw [12, 13, 14] (fun kv _ _ wr => ∃ (q : Int) (k2 : Nat) (ys : List Ix), kv = .int .i64 q /\ Hid (q = (k2 : Int) - 1 /\ k2 <= nk) /\ Hid (RG2 S fb F L (semL F.T F.b (kidsOf d.t)) a z nk w k2 wr (some ⟨g, 0, none⟩) c ys)) (fun kv _ _ _ => (intOf kv + 1).toNat)
   case atStart => exact ⟨q0, nk, _, rfl, lh ⟨HQ0.out, nlr _⟩, HR2⟩
   case round =>
    obtain ⟨q, k2, ys, rfl, HQK, HY2⟩ := hrel;by_cases hq : 0 <= q
    ·obtain ⟨kk, hkk⟩ : ∃ kk : Nat, q = (kk : Int) := ⟨q.toNat, by omega⟩;subst hkk;have hk2 : k2 = kk + 1 := (by have := HQK.out.1; omega);have hkn : kk < nk := (by have := HQK.out.2; omega);subst hk2;obtain ⟨qq, d', hqq, hqk, hd', htk, hkc⟩ := HK.out kk hkn;have hkl : kk < ys.length := (by rw [HY2.out.len]; omega);have hkl1 : kk + 1 < ys.length := (by rw [HY2.out.len]; omega);obtain ⟨xk, hxk⟩ : ∃ x, ys[kk]? = some x := ⟨ys[kk]'hkl, List.getElem?_eq_getElem _⟩;obtain ⟨xk1, hxk1⟩ : ∃ x, ys[kk + 1]? = some x := ⟨ys[kk + 1]'hkl1, List.getElem?_eq_getElem _⟩;have hfw := HY2.out.gm.fin.weaken HH.out.sm HH.out.sf (fun j hj => .inl hj);obtain ⟨gk, ok, hkA, _, _⟩ := hkc wr hfw;have HKC := lh hkc;have HFX := lh (HY2.out.fwd kk xk (Nat.lt_succ_self _) hxk);have HX1 := lh (aI hxk (aI hxk1 (aI hd' (aI htk hkn))));obtain ⟨nx, hnx⟩ : ∃ n, n = xk.ws.length := ⟨_, rfl⟩;obtain ⟨n1, hn1⟩ : ∃ n, n = xk1.ws.length := ⟨_, rfl⟩;have HNX := lh (aI hnx hn1);have hSN := lh (since_is a (by have := HP.out.2.2.1; have := HP.out.2.2.2.1; have := HP.out.2.2.2.2.1; omega) wr);obtain ⟨f0, hf0⟩ : ∃ f, f = a / 64 := ⟨_, rfl⟩;have HF0 := lh hf0;rw [<- hf0] at hSN;unfold Ix.v at hSN;simp only [List.length_nil] at hSN;obtain ⟨k1, hk1⟩ : ∃ k1, k1 = kk + 1 := ⟨_, rfl⟩;have HK1 := lh hk1;have HWK := lh (show IntKind.i64.wrap ((kk : Int) + 1) = (k1 : Int) by rw [hk1]; exact IntWalk.i64_in _ (by have := HNK.out.2; omega));have hkkb : kk < 1099511627776 := (by have := HNK.out.2; omega);have i0 : (0 : Int) <= (kk : Int) := (by omega);have i1 : (kk : Int) < ((nk + 1 : Nat) : Int) := (by omega);have i2 : (kk : Int) < (nk : Int) + 1 := (by omega);have i3 : kk < nk + 1 := (by omega);have i4 : (kk : Int) < (nk : Int) := (by omega);have i5 : kk < nk := hkn;have i6 : (k1 : Int) < ((nk + 1 : Nat) : Int) := (by omega);have i7 : (k1 : Int) < (nk : Int) + 1 := (by omega);have i8 : k1 < nk + 1 := (by omega);have i9 : (0 : Int) <= (k1 : Int) := (by omega);subst hkA
     have HSP := lh fun (V : World) (hV : GoalM S fb F L w V (some ⟨g, 0, none⟩) c ys) => (show V.cell? ⟨gn, on + k * 13 + 9, none⟩ = some (.slice (some ⟨gk, ok, none⟩) nk d.kc) /\ V.cell? ⟨gk, ok + kk, none⟩ = some (.int .i64 (qq : Int)) /\ V.cell? ⟨g, k1 * 2, none⟩ = some (.int .i64 (xk1.f : Int)) /\ V.cell? ⟨g, k1 * 2 + 1, none⟩ = some (.slice xk1.A n1 xk1.c) by
      obtain ⟨ga, _, oa, _, ca, cb, _, _⟩ := hV.cell HX1.out.2.1;obtain ⟨gx, hgx, _, _, da, db, _, _⟩ := hV.cell HX1.out.2.1;cases hgx
      obtain ⟨gy, oy, ey, _, cy⟩ := HKC.out V (hV.fin.weaken HH.out.sm HH.out.sf fun j hj => .inl hj);cases ey
      rw [HK1.out, HNX.out.2]
      exact ⟨(HCN.out _ V (fun j hj => .inl hj) hV.fin).2, cy, da, db⟩)
     have HSX := lh fun (V : World) (hV : GoalM S fb F L w V (some ⟨g, 0, none⟩) c ys) => (show g < V.heap.size /\ V.cell? ⟨g, kk * 2, none⟩ = some (.int .i64 (xk.f : Int)) /\ V.cell? ⟨g, kk * 2 + 1, none⟩ = some (.slice xk.A nx xk.c) /\ V.frozen? ⟨g, kk * 2, none⟩ = false /\ V.frozen? ⟨g, kk * 2 + 1, none⟩ = false by
      obtain ⟨gx, hgx, _, hl, da, db, fa, fb'⟩ := hV.cell HX1.out.1;cases hgx
      rw [HNX.out.1]
      exact ⟨hl, da, db, fa, fb'⟩)
     clear hq hkn hqq hqk hd' htk hkc hkl hkl1 hxk hxk1 hfw hnx hn1 hf0 hk1 c94 gnl4;go_upto_region 11 with fail;go_wp2_with fail;go_at_call 52;with_reducible refine hSN.out.mono ?_
     rintro e w5 ⟨rfl, hb5⟩;have hgm5 := HY2.out.gm.below hb5;have hgm6 := hgm5.below (bW w5 (.cells #[.int .i64 (f0 : Int), .slice none 0 0] 68))
     have hst : Stp (fun j => S j \/ rblk (some ⟨g, 0, none⟩) ys.length c j) fb F L (w5.alloc (.cells #[.int .i64 (f0 : Int), .slice none 0 0] 68)) w5.heap.size w5.heap.size ⟨f0, [], none, 0⟩ := by
      refine ⟨hgm5.fin.priv (bW w5 _) (fun j hj => .inl hj) (fun j hj => hj.imp_right fun e => by rw [tch_nil _ _ e]; exact nlr _) (fun j hj => ?_), OwnI.nil w5 w5.heap.size f0, by rw [World.size_alloc]; exact Nat.le_succ _, nlr _, fun j hj => hgm5.fin.old j hj, .inl HH.out.sm, .inl HH.out.sf, ?_⟩
      ·rw [World.size_alloc];rcases hj with hj | hj
       ·exact Nat.lt_succ_of_lt (hgm5.fin.old j hj)
       ·rw [tch_nil _ _ hj]; exact Nat.lt_succ_self _
      ·have h1 := HF0.out;have h2 := HP.out.2.2.1;have h3 := HP.out.2.2.2.2.1;show f0 + 0 <= F.N / 64 + 1;have : a / 64 <= F.N / 64 := Nat.div_le_div_right (by omega);omega
     obtain ⟨w6, hw6⟩ : ∃ w6, w6 = w5.alloc (.cells #[.int .i64 (f0 : Int), .slice none 0 0] 68) := ⟨_, rfl⟩;rw [<- hw6] at hgm6 hst;have hp6 : w5.heap.size < w6.heap.size := (by rw [hw6, World.size_alloc]; exact Nat.lt_succ_self _);obtain ⟨x0l, x0a, x0b, _, _⟩ := HSX.out w6 hgm6;have hnx6 := next_ix (hgm6.sets xk (List.mem_of_getElem? HX1.out.1)) (by have := HP.out.2.2.2.1; omega) 0 (by decide) hgm6.fin.deb;unfold Ix.v at hnx6;rw [<- HNX.out.1, show ((0 : Nat) : Int) = 0 from rfl] at hnx6;have HN6 := lh hnx6;have HG6 := lh (aI hgm6 (aI hst (aI hgm5 (show Below w5.heap.size w5 w6 from by rw [hw6]; exact bW w5 _))));clear hb5 hgm5 hgm6 hst hnx6;go_upto_region 12 with fail;rw [<- hw6];clear hw6 hp6;go_wp2_with fail;go_at_call 94;with_reducible refine HN6.out.mono ?_
     rintro e w7 ⟨r0, rfl, hr0, hb7⟩;have hgm7 := HG6.out.1.below hb7;have hst7 := HG6.out.2.1.turned (HG6.out.2.1.fin.below hb7) (Turned.of_below hb7)
     have HR3 := lh (show RG3 (fun j => S j \/ rblk (some ⟨g, 0, none⟩) ys.length c j) fb F L w5.heap.size w5.heap.size a (F.rel d'.t) xk.mem xk1.mem w5 0 w7 ⟨f0, [], none, 0⟩ from ⟨hst7, HF0.out, Turned.of_below (HG6.out.2.2.2.trans (hb7.mono HG6.out.2.2.2.size)), fun j => by
      rw [show (⟨f0, [], none, 0⟩ : Ix).mem j = false from mem_nil _ rfl j];constructor
      ·intro h; cases h
      ·rintro ⟨h, _⟩; omega⟩)
     have HG7 := lh (aI HG6.out.2.2.1 hr0);clear hgm7 hst7 hb7 hr0 x0l x0a x0b;go_upto_region 13 with fail;go_loopw [14] (fun iv wr => ∃ (r : Int) (cc : Nat) (y : Ix), iv = .int .i64 r /\ Hid (NextIs xk cc r) /\ Hid (RG3 (fun j => S j \/ rblk (some ⟨g, 0, none⟩) ys.length c j) fb F L w5.heap.size w5.heap.size a (F.rel d'.t) xk.mem xk1.mem w5 cc wr y)) (fun iv _ => if intOf iv < 0 then 0 else F.N + 1 - (intOf iv).toNat)
     case atStart => exact ⟨r0, 0, _, rfl, lh HG7.out.2, HR3⟩
     case round =>
      obtain ⟨r, cc, y, rfl, HNI, HY3⟩ := hrel;rcases HNI.out with ⟨rfl, hnn⟩ | ⟨i, rfl, hci, hi, hil⟩
      ·have hgm := HG7.out.1.at3 HY3.out (nlr _);obtain ⟨s0, s1, s2, s3, s4⟩ := HSX.out wr hgm;obtain ⟨ny, hny⟩ : ∃ n, n = y.ws.length := ⟨_, rfl⟩;have o0 := HY3.out.stp.own.c0;have o1 := HY3.out.stp.own.c1;rw [<- hny] at o1;have ol : w5.heap.size < wr.heap.size := World.block_lt_of_cell? wr _ o0;have hput := hgm.put (y := y) ((HY3.out.stp.own.ix HY3.out.stp.fits).weaken fun j hj => HY3.out.stp.hS j hj) (i := kk) (by rw [HY2.out.len]; exact Nat.lt_succ_of_lt HX1.out.2.2.2.2);have hr : (semL F.T F.b (kidsOf d.t))[kk]? = some (F.rel d'.t) := (by rw [semL_at, HX1.out.2.2.2.1]; rfl)
       have hgo := HY2.out.go hput hr (F.fit d'.t) HX1.out.1 HX1.out.2.1 (fun j => by
        rw [HY3.out.is j];constructor
        ·exact fun h => h.2
        ·rintro ⟨h1, h2⟩;refine ⟨?_, h1, h2⟩;rcases Nat.lt_or_ge j cc with e | e
         ·exact e
         ·rw [hnn j e] at h1; cases h1)
       rw [<- hny] at hgo;have HGO := lh hgo;obtain ⟨q', hq'⟩ : ∃ q', q' = (kk : Int) - 1 := ⟨_, rfl⟩;have HQ' := lh (aI hq' HX1.out.2.2.2.2);have hwq : IntKind.i64.wrap ((kk : Int) - 1) = q' := (by rw [hq']; exact IntWalk.i64_in _ (by have := HNK.out.2; have := HX1.out.2.2.2.2; omega));clear hgm hput hr hgo hny hnn hq';go_wp2_with fail;go_roundw
       case rel => exact ⟨q', kk, _, rfl, lh ⟨HQ'.out.1, Nat.le_of_lt HQ'.out.2⟩, HGO⟩
       case measure =>
        clear hwq;have := HQ'.out.1;show (q' + 1).toNat < ((kk : Int) + 1).toNat;omega
      ·have hiN : i <= F.N := HFX.out.inN i hi;have hai : a <= i := rowB_le (HFX.out.fwd.snd i hi);have hiw : i < 1099511627776 := (by have := HP.out.2.2.2.1; omega);have hgm := HG7.out.1.at3 HY3.out (nlr _);have HGD := lh (HSP.out wr.drew (hgm.below (bD wr 1)));have HOI := lh (HO.out i hiN wr.drew);have hi0 : decide ((0 : Int) <= (i : Int)) = true := dqt (by omega);obtain ⟨i1', hi1'⟩ : ∃ i1, i1 = i + 1 := ⟨_, rfl⟩;have HWI := lh (show wrap64 ((i : Int) + 1) = (i1' : Int) by rw [hi1']; exact IntWalk.wrap64_in _ (by omega));have HI := lh (aI hci (aI hi (aI hil (aI hiN (aI hai (aI hiw hi1'))))));have hi15 : i1' < 1099511627776 := (by have := HP.out.2.2.2.1; omega);clear hgm hci hi hil hiN hai hiw hi1';go_upto_region 15 with fail;have hwk : IntKind.i64.wrap ((kk : Int) + 1) = (k1 : Int) := HWK.out;refine wp_region_heads (fun wx => wx.cell? ⟨gn, on + k * 13 + 9, none⟩ = some (.slice (some ⟨gk, ok, none⟩) nk d.kc) /\ wx.cell? ⟨gk, ok + kk, none⟩ = some (.int .i64 (qq : Int)) /\ wx.cell? ⟨g, k1 * 2, none⟩ = some (.int .i64 (xk1.f : Int)) /\ wx.cell? ⟨g, k1 * 2 + 1, none⟩ = some (.slice xk1.A n1 xk1.c)) [0, 1, 2, 3, 4, 5, 6, 7, 8, 11, 12, 13, 14, 15] [9, 10, 16, 17] [16, 17] (by kernel_rfl) (by kernel_rfl) (by kernel_rfl) (fun c a d v w h => hq_body (P := Tryz.prog) (fn := Tryz.f105) c a d v w h) (by kernel_rfl) HGD.out ?_
       iterate 14
        refine heads_step (v := ?_) rfl (by rfl) (fun wx hSw => ?_) ?_;rotate_left
        ·obtain ⟨u0, u1, u2, u3⟩ := hSw;go_simp;try with_reducible rfl
        simp only [Act.put, List.setIfInBounds_toArray]
       refine heads_end ?_;clear hwk;refine tail_step rfl (fun K hK => ?_);go_simp;refine HOI.out.mono ?_;rintro e wA ⟨xi, he, hmi, hbA⟩;obtain ⟨ni, hni⟩ : ∃ n, n = xi.ws.length := ⟨_, rfl⟩;have hvi : xi.v = .agg #[.int .i64 (xi.f : Int), .slice xi.A ni xi.c] := (by unfold Ix.v; rw [hni]);rw [hvi] at he;subst he;have hb0A := (bD wr 1).trans hbA;have hxi : xi.mem = onlyB i := funext fun j => by rw [hmi.is j]; rfl
       have hfA := HY3.out.stp.fin.below hb0A;have hea := HE.out _ wA i xi qq d' HX1.out.2.2.1 ⟨hfA, hmi.at'.weaken fun j hj => HY3.out.stp.fin.old j hj, fun j hj => by rw [hxi, onlyB_iff] at hj; rw [hj]; exact HI.out.2.2.2.1, hmi.low⟩;rw [hvi] at hea;have HEA := lh hea;have HA := lh (aI hb0A hxi);have hSA := HSP.out wA ((HG7.out.1.at3 HY3.out (nlr _)).below hb0A);refine hK _ _ ⟨fun _ => hSA, ?_⟩;clear hK K hmi hbA hni hvi hb0A hxi hfA hea hSA;try simp only [Act.put, List.setIfInBounds_toArray, List.set_cons_zero, List.set_cons_succ]
       refine tail_step rfl (fun K hK => ?_);go_simp;refine HEA.out.mono ?_;rintro e wB ⟨X, he, hg⟩;obtain ⟨nX, hnX⟩ : ∃ n, n = X.ws.length := ⟨_, rfl⟩;have hvX : X.v = .agg #[.int .i64 (X.f : Int), .slice X.A nX X.c] := (by unfold Ix.v; rw [hnX]);rw [hvX] at he;subst he;have htB : Turned (· = F.mb) wr wB := turBT HA.out.1 hg.tur;have hstB := HY3.out.stp.turned hg.fin htB;have h3B : RG3 (fun j => S j \/ rblk (some ⟨g, 0, none⟩) ys.length c j) fb F L w5.heap.size w5.heap.size a (F.rel d'.t) xk.mem xk1.mem w5 cc wB y := ⟨hstB, HY3.out.fy, HY3.out.tur.trans htB fun _ _ e => .inl e, HY3.out.is⟩;have hgmB := HG7.out.1.at3 h3B (nlr _);have hSB := HSP.out wB hgmB;have hlast := last_ix (w := wB) hg.at' (hgmB.sets xk1 (List.mem_of_getElem? HX1.out.2.1)) (by have := HP.out.2.2.2.1; omega);rw [hvX] at hlast;unfold Ix.v at hlast;rw [<- HNX.out.2] at hlast;have HL := lh hlast;have hX := hg.is;rw [HA.out.2] at hX;have HB := lh (aI htB (aI hstB (aI hX hgmB)));refine hK _ _ ⟨fun _ => hSB, ?_⟩;clear hK K hg hnX hvX htB hstB h3B hgmB hSB hlast hX;try simp only [Act.put, List.setIfInBounds_toArray, List.set_cons_zero, List.set_cons_succ]
       refine tail_step rfl (fun K hK => ?_);go_simp;refine HL.out.mono ?_;rintro e wC ⟨q2, rfl, hl2, hbC⟩
       have hex := last_ex HB.out.2.2.1 (fun e he => by
        have h1 := HY2.out.good (kk + 1) xk1 (nlr _) HX1.out.2.1
        exact Nat.le_trans (rowB_le ((h1 e).1 he).2) HP.out.2.2.2.2.2) hl2
       have HC := lh (aI hex (aI (HB.out.2.1.turned (HB.out.2.1.fin.below hbC) (Turned.of_below hbC)) (turB HB.out.1 hbC)));refine hK _ _ ⟨fun h => by simp at h, ?_⟩;clear hK K hl2 hbC hex;try simp only [Act.put, List.setIfInBounds_toArray, List.set_cons_zero, List.set_cons_succ]
       by_cases hq2 : 0 <= q2
       ·have hq2b : decide (0 <= q2) = true := dqt hq2;have hadd := add_is HC.out.2.1.own HC.out.2.1.hB i (by rw [HY3.out.fy]; exact Nat.div_le_div_right HI.out.2.2.2.2.1) HI.out.2.2.2.2.2.1;have HAD := lh hadd;have HEQ := lh (HC.out.1.1 hq2);clear hadd hq2;refine tail_step rfl (fun K hK => ?_);go_simp;refine hK _ _ ⟨fun h => by simp at h, ?_⟩;clear hK K;try simp only [Act.put, List.setIfInBounds_toArray, List.set_cons_zero, List.set_cons_succ]
        refine tail_end ?_;go_wp2_with fail;go_at_call 53;with_reducible refine HAD.out.mono ?_
        rintro e wD ⟨rfl, ws', A', c', hO, hm, hl, hT, hkk⟩;have h3 := HY3.out.go_yes HC.out.2.1 HC.out.2.2 HI.out.2.2.1 HI.out.2.1 HEQ.out HI.out.1 HI.out.2.2.2.1 HI.out.2.2.2.2.1 hO hm hl hT hkk;rw [<- HI.out.2.2.2.2.2.2] at h3;have hgmD := HG7.out.1.at3 h3 (nlr _);obtain ⟨s0, s1, s2, _, _⟩ := HSX.out wD hgmD;have hnxD := next_ix (hgmD.sets xk (List.mem_of_getElem? HX1.out.1)) (by have := HP.out.2.2.2.1; omega) i1' hi15 hgmD.fin.deb;unfold Ix.v at hnxD;rw [<- HNX.out.1] at hnxD;have HND := lh hnxD;have H3 := lh h3;clear hO hm hl hT hkk h3 hgmD hnxD;have hwi := HWI.out;go_wp2_with fail;go_at_call 94;clear hwi;with_reducible refine HND.out.mono ?_
        rintro e wE ⟨r', rfl, hr', hbE⟩;have HR' := lh hr';have H3E := lh (H3.out.below hbE);clear hr' hbE s0 s1 s2;go_wp2_with fail;go_roundw
        case rel => exact ⟨r', i1', _, rfl, HR', H3E⟩
        case measure =>
         simp only [intOf];refine after_meas HI.out.2.2.2.1 ?_;rcases HR'.out with ⟨h, _⟩ | ⟨j, h, hj, hjx, _⟩
         ·exact .inl h
         ·exact .inr ⟨j, h, by have := HI.out.2.2.2.2.2.2; omega, HFX.out.inN j hjx⟩
       ·have hq2b : decide (0 <= q2) = false := dqf hq2;have h3 := HY3.out.go_no HC.out.2.1 HC.out.2.2 HI.out.2.2.1 (fun he => hq2 (HC.out.1.2 he)) HI.out.1;rw [<- HI.out.2.2.2.2.2.2] at h3;have hgmD := HG7.out.1.at3 h3 (nlr _);obtain ⟨s0, s1, s2, _, _⟩ := HSX.out wC hgmD;have hnxD := next_ix (hgmD.sets xk (List.mem_of_getElem? HX1.out.1)) (by have := HP.out.2.2.2.1; omega) i1' hi15 hgmD.fin.deb;unfold Ix.v at hnxD;rw [<- HNX.out.1] at hnxD;have HND := lh hnxD;have H3 := lh h3;clear h3 hgmD hnxD hq2;refine tail_step rfl (fun K hK => ?_);go_simp;refine hK _ _ ⟨fun h => by simp at h, ?_⟩;clear hK K;try simp only [Act.put, List.setIfInBounds_toArray, List.set_cons_zero, List.set_cons_succ]
        refine tail_end ?_;have hwi := HWI.out;go_wp2_with fail;go_at_call 94;clear hwi;with_reducible refine HND.out.mono ?_
        rintro e wE ⟨r', rfl, hr', hbE⟩;have HR' := lh hr';have H3E := lh (H3.out.below hbE);clear hr' hbE s0 s1 s2;go_wp2_with fail;go_roundw
        case rel => exact ⟨r', i1', _, rfl, HR', H3E⟩
        case measure =>
         simp only [intOf];refine after_meas HI.out.2.2.2.1 ?_;rcases HR'.out with ⟨h, _⟩ | ⟨j, h, hj, hjx, _⟩
         ·exact .inl h
         ·exact .inr ⟨j, h, by have := HI.out.2.2.2.2.2.2; omega, HFX.out.inN j hjx⟩
    ·have hqb : decide (0 <= q) = false := dqf hq
     have HPP := lh (show RowGE S fb F L (semL F.T F.b (kidsOf d.t)) a z nk w (.returned (.slice (some ⟨g, 0, none⟩) (nk + 1) c)) wr from by
      refine ⟨some ⟨g, 0, none⟩, c, ys, rfl, HY2.out.gm.out, HY2.out.len, fun j x hx => HY2.out.good j x ?_ hx⟩;have := HQK.out.1
      omega)
     clear hq;go_wp2_with fail;refine bodyPost_ret (v := .slice (some ⟨g, 0, none⟩) (nk + 1) c) (by simp [results, Tryz.results105, go_sem]) rfl HPP.out
open Go.RowKit Go.Deep Go.Sort
theorem RGood3.go {S T : Nat -> Prop} {fb L c : Nat} {F : FN} {w w1 w2 : World} {G : Option Addr} {xs : List Ix} (h : RGood3 S fb F L w w1 G c xs) (ht : Turned T w1 w2) (hT : ∀ k, T k -> S k) : OffAt S w2 G (ixsV xs) /\ ∀ x ∈ xs, IxAt S F.N w2 x :=
 ⟨h.row.turned (turned_mono ht hT), fun x hx => (h.sets x hx).turned (turned_mono ht hT)⟩
theorem ixs_cell {S : Nat -> Prop} {w : World} {G : Option Addr} {xs : List Ix} (h : OffAt S w G (ixsV xs)) {i : Nat} {x : Ix} (hx : xs[i]? = some x) : ∃ g o, G = some ⟨g, o, none⟩ /\ g < w.heap.size /\ w.cell? ⟨g, o + i * 2, none⟩ = some (.int .i64 (x.f : Int)) /\ w.cell? ⟨g, o + i * 2 + 1, none⟩ = some (.slice x.A x.ws.length x.c) := by
 obtain ⟨h1, h2⟩ := ixsV_at hx;rcases h with h | ⟨g, o, e, _, hr⟩
 ·rw [h] at h1;simp at h1
 ·exact ⟨g, o, e, World.block_lt_of_cell? w _ (hr _ _ h1), hr _ _ h1, by rw [Nat.add_assoc]; exact hr _ _ h2⟩
structure RowW (S : Nat -> Prop) (fb : Nat) (F : FN) (L gm : Nat) (rs : List Rel) (es : List EvF) (a z : Nat) (sp : Sp) (w0 : World) (i p : Nat) (w wr : World) : Prop where
 grp : ∃ sq, GrpP S fb F L gm wr sq /\ putE sp (rowE rs es a z) = putE sq (rowE (rs.drop i) (es.drop i) p z)
 tur : Turned (GT F gm) w0 wr
 tu2 : Turned (GT F gm) w wr
 fw : rowB (rs.take i) a p = true
 bw : rowB (rs.drop i) p z = true
theorem row_far {rs : List Rel} {a z k p : Nat} {r : Rel} {L N : Nat} {X Y : Ix} {q : Int} (hr : rs[k]? = some r) (hf : FitR N r) (h : GoodR rs a z (k + 1) Y.mem) (hp : rowB (rs.take k) a p = true) (hd : rowB (rs.drop k) p z = true) (hX : AllR L r (onlyB p) X.mem) (hzL : z <= L) (hl : LastIs X Y q) :
  ∃ e : Nat, q = (e : Int) /\ r p e = true /\ e <= z /\ p + top (fun d => r p (p + d) && rowB (rs.drop (k + 1)) (p + d) z) (z - p) = e /\ rowB (rs.take (k + 1)) a e = true /\ rowB (rs.drop (k + 1)) e z = true := by
 have hle : ∀ e, Y.mem e = true -> e <= z := fun e he => rowB_le ((h e).1 he).2;rcases hl with ⟨_, hn⟩ | ⟨e, rfl, h1, h2, h3⟩
 ·obtain ⟨e, e1, e2⟩ := row_ex hr hf h hp hd;have := hn e ((hX.one (Nat.le_trans (hle e e2) hzL)).2 e1);rw [e2] at this;cases this
 ·have hez := hle e h2;have hre := (hX.one (Nat.le_trans hez hzL)).1 h1
  obtain ⟨t1, t2, t3⟩ := row_top hr hf h hp hre h2 fun j hj hrj => by
   cases hYj : Y.mem j with
   | false => rfl
   | true =>
    have := h3 j hj ((hX.one (Nat.le_trans (hle j hYj) hzL)).2 hrj);rw [hYj] at this;cases this
  exact ⟨e, rfl, hre, hez, t1, t2, t3⟩
set_option maxRecDepth 100000 in
set_option maxHeartbeats 1500000 in
theorem row_groups {fb : Nat} {F : FN} {k : Nat} (hIH : ∀ q, q < k -> GrpC fb F q) : SubC 84 2 fb F k := by
 intro S w L gm a z sp d v hG hd hk hv haz hzL hrel;have hgoals := rowGoals_is hG.fin hd hk hv haz hzL hrel;obtain ⟨gn, on, hA, hve, hcell⟩ := ndp_cells hG.fin hd hv;subst hve;have hn := hG.fin.dat k d hd;have hR : F.rel d.t = rowB (semL F.T F.b (kidsOf d.t)) := (by rw [hG.fin.rel hd, hk]; rfl)
 have hE : evT F.T F.b d.t a z = rowE (semL F.T F.b (kidsOf d.t)) (evL F.T F.b (kidsOf d.t)) a z := by
  rw [ev_cnt, <- hn.kind, hk];rfl
 rw [hR] at hrel;have hzN : z <= F.N := Nat.le_trans hzL hG.fin.lim;have hsm := hG.fin.small;have HK := lh fun (i : Nat) (hi : i < d.ks.length) => hG.fin.kidAt hd hi;have HC := lh fun (V : World) (hV : FindAt S V fb F L) => (show gn < V.heap.size /\ V.cell? ⟨gn, on + k * 13 + 9, none⟩ = some (.slice d.kA d.ks.length d.kc) from ⟨(hcell V hV).1, (hcell V hV).2 9 _ rfl⟩);have HO := lh fun (i : Nat) (hi : i <= F.N) (V : World) => only_is i F.N hi (by omega) V;have HEN := lh fun (V : World) (l : Nat) (x : Ix) (q : Nat) (d' : ND) (hq : F.nds[q]? = some d') (ha : Ask S fb F L l V x) => ends_is ha hq (long_all q);have HIH := lh fun (q : Nat) (hq : q < k) (V : World) (sq : Sp) (p e : Nat) (hV : GrpP S fb F L gm V sq) (d' : ND) (hd' : F.nds[q]? = some d') (h1 : p <= e) (h2 : e <= L) (hr : F.rel d'.t p e = true) => hIH q hq S V L gm p e sq d' hV hd' h1 h2 hr;have HP := lh (aI hrel (aI hE (aI hzN (aI hsm (aI haz hzL)))));obtain ⟨nk, hnk⟩ : ∃ n, n = d.ks.length := ⟨_, rfl⟩;have HNK := lh (aI hnk (aI (show nk <= 100000 from by rw [hnk]; exact hn.many) hn.len));rw [<- hnk] at HK HC hgoals;obtain ⟨kA, hkA⟩ : ∃ kA, kA = d.kA := ⟨_, rfl⟩;rw [<- hkA] at HK HC;have HG := lh hG;have HGO := lh hgoals;clear hd hk hv haz hzL hrel hn hR hE hzN hsm hnk hG hIH hkA hA hcell hgoals;go_enter Tryz.func84, Tryz.ntmps84;go_wp2_with fail;go_at_call 105;with_reducible refine HGO.out.mono ?_
 rintro e w1 ⟨G, c, xs, rfl, hg3, hxl, hgood⟩;have HG3 := lh (aI hg3 (aI hxl hgood));obtain ⟨gnl, c9⟩ := HC.out w1 hg3.fin
 have HW0 := lh (show RowW S fb F L gm (semL F.T F.b (kidsOf d.t)) (evL F.T F.b (kidsOf d.t)) a z sp w1 0 a w w1 from
  ⟨⟨sp, HG.out.mono hg3.fin hg3.tur, rfl⟩, Turned.refl _ _, gtM hg3.tur, by rw [List.take_zero]; exact rowB_nil.2 rfl, HP.out.1⟩)
 clear hg3 hxl hgood;go_upto_region 2 with fail;go_loopw [2, 11, 12, 13, 24] (fun pv _ _ _ iv wr => ∃ (i p : Nat), iv = .int .i64 (i : Int) /\ pv = .int .i64 (p : Int) /\ i <= nk /\ Hid (RowW S fb F L gm (semL F.T F.b (kidsOf d.t)) (evL F.T F.b (kidsOf d.t)) a z sp w1 i p w wr)) (fun _ _ _ _ iv _ => nk - (intOf iv).toNat)
 case atStart => exact ⟨0, a, rfl, rfl, Nat.zero_le _, HW0⟩
 case round =>
  obtain ⟨i, p, rfl, rfl, hin, HY⟩ := hrel;by_cases hlt : i < nk
  ·obtain ⟨q, d', hq, hqk, hd', htk, hkc⟩ := HK.out i hlt;obtain ⟨sq, hgp, hev⟩ := HY.out.grp;obtain ⟨gk, ok, hkA, hgk, hck⟩ := hkc wr hgp.fin;have hx1l : i + 1 < xs.length := (by rw [HG3.out.2.1]; omega);obtain ⟨x1, hx1⟩ : ∃ x, xs[i + 1]? = some x := ⟨xs[i + 1]'hx1l, List.getElem?_eq_getElem _⟩;have hTS : ∀ j, GT F gm j -> S j := fun j hj => hj.elim (fun e => by rw [e]; exact HG.out.fin.sm) fun e => by rw [e]; exact HG.out.sg
   have hrw := HG3.out.1.go HY.out.tur hTS;obtain ⟨gg, og, hGg, hggl, m0, m1⟩ := ixs_cell hrw.1 hx1;obtain ⟨n1, hn1⟩ : ∃ n, n = x1.ws.length := ⟨_, rfl⟩;have hr : (semL F.T F.b (kidsOf d.t))[i]? = some (F.rel d'.t) := (by rw [semL_at, htk]; rfl);have he : (evL F.T F.b (kidsOf d.t))[i]? = some (evT F.T F.b d'.t) := (by rw [evL_at, htk]; rfl);have hpz : p <= z := rowB_le HY.out.bw;have hpN : p <= F.N := Nat.le_trans hpz HP.out.2.2.1;have HOI := lh (HO.out p hpN wr.drew);obtain ⟨k1, hk1⟩ : ∃ k1, k1 = i + 1 := ⟨_, rfl⟩;rw [<- hk1] at m0 m1
   have HSP := lh fun (V : World) (hV : FindAt S V fb F L) (ht : Turned (GT F gm) w1 V) => (show V.cell? ⟨gg, og + k1 * 2, none⟩ = some (.int .i64 (x1.f : Int)) /\ V.cell? ⟨gg, og + k1 * 2 + 1, none⟩ = some (.slice x1.A n1 x1.c) by
    obtain ⟨g', o', hG', _, a0, a1⟩ := ixs_cell (HG3.out.1.go ht hTS).1 hx1;rw [hGg] at hG';cases hG'
    rw [hk1, hn1]
    exact ⟨a0, a1⟩)
   have HD := lh (HSP.out wr.drew (hgp.fin.below (bD wr 1)) (gtB HY.out.tur (bD wr 1)));have HQ := lh (aI hqk (aI hd' (aI hr (aI he (aI hx1 (aI hgp (aI hev (aI hpN hlt))))))));have HTS := lh hTS;have HN1 := lh (aI hn1 hk1);have hiI : (i : Int) < (nk : Int) := (by omega);have hi0 : (0 : Int) <= (i : Int) := (by omega);have i6 : (k1 : Int) < ((nk + 1 : Nat) : Int) := (by omega);have i7 : (k1 : Int) < (nk : Int) + 1 := (by omega);have i8 : k1 < nk + 1 := (by omega);have i9 : (0 : Int) <= (k1 : Int) := (by omega);have hib : i < 1099511627776 := (by have := HNK.out.2.1; omega);have hwk : IntKind.i64.wrap ((i : Int) + 1) = (k1 : Int) := (by rw [hk1]; exact IntWalk.i64_in _ (by omega));subst hkA hGg;clear hq hqk hd' htk hkc hlt hin hgp hev hx1l hx1 hTS hrw hn1 hr he hpz hpN hk1 m0 m1 c9;go_upto_region 4 with fail;refine wp_region_heads (fun wx => wx.cell? ⟨gg, og + k1 * 2, none⟩ = some (.int .i64 (x1.f : Int)) /\ wx.cell? ⟨gg, og + k1 * 2 + 1, none⟩ = some (.slice x1.A n1 x1.c)) [0, 1, 2, 5, 6, 7, 8, 9] [3, 4, 10, 11] [10, 11] (by kernel_rfl) (by kernel_rfl) (by kernel_rfl) (fun c a d v w h => hq_body (P := Tryz.prog) (fn := Tryz.f84) c a d v w h) (by kernel_rfl) HD.out ?_
   iterate 8
    refine heads_step (v := ?_) rfl (by rfl) (fun wx hSw => ?_) ?_;rotate_left
    ·obtain ⟨u0, u1⟩ := hSw;go_simp;try with_reducible rfl
    simp only [Act.put, List.setIfInBounds_toArray]
   refine heads_end ?_;clear hwk;refine tail_step rfl (fun K hK => ?_);go_simp;refine HOI.out.mono ?_;rintro e wA ⟨xi, he, hmi, hbA⟩;obtain ⟨ni, hni⟩ : ∃ n, n = xi.ws.length := ⟨_, rfl⟩;have hvi : xi.v = .agg #[.int .i64 (xi.f : Int), .slice xi.A ni xi.c] := (by unfold Ix.v; rw [hni]);rw [hvi] at he;subst he;have hb0A := (bD wr 1).trans hbA;have hxi : xi.mem = onlyB p := funext fun j => by rw [hmi.is j]; rfl
   have hfA := HQ.out.2.2.2.2.2.1.fin.below hb0A;have hea := HEN.out wA p xi q d' HQ.out.2.1 ⟨hfA, hmi.at'.weaken fun j hj => HQ.out.2.2.2.2.2.1.fin.old j hj, fun j hj => by rw [hxi, onlyB_iff] at hj; rw [hj]; exact HQ.out.2.2.2.2.2.2.2.1, hmi.low⟩;rw [hvi] at hea;have HEA := lh hea;have HA := lh (aI hb0A hxi);have hSA := HSP.out wA hfA (gtB HY.out.tur hb0A);refine hK _ _ ⟨fun _ => hSA, ?_⟩;clear hK K hmi hbA hni hvi hb0A hxi hfA hea hSA;try simp only [Act.put, List.setIfInBounds_toArray, List.set_cons_zero, List.set_cons_succ]
   refine tail_step rfl (fun K hK => ?_);go_simp;refine HEA.out.mono ?_;rintro e wB ⟨X, he, hg⟩;obtain ⟨nX, hnX⟩ : ∃ n, n = X.ws.length := ⟨_, rfl⟩;have hvX : X.v = .agg #[.int .i64 (X.f : Int), .slice X.A nX X.c] := (by unfold Ix.v; rw [hnX]);rw [hvX] at he;subst he;have htB : Turned (· = F.mb) wr wB := turBT HA.out.1 hg.tur;have ht1B : Turned (GT F gm) w1 wB := gtT HY.out.tur (gtM htB);have hSB := HSP.out wB hg.fin ht1B;have hlast := last_ix (w := wB) hg.at' ((HG3.out.1.go ht1B HTS.out).2 x1 (List.mem_of_getElem? HQ.out.2.2.2.2.1)) (by have := HP.out.2.2.2.1; omega);rw [hvX] at hlast;unfold Ix.v at hlast;rw [<- HN1.out.1] at hlast;have HL := lh hlast;have hX := hg.is;rw [HA.out.2] at hX;have HB := lh (aI htB (aI hg.fin (aI hX ht1B)));refine hK _ _ ⟨fun _ => hSB, ?_⟩;clear hK K hg hnX hvX htB hSB hlast hX ht1B;try simp only [Act.put, List.setIfInBounds_toArray, List.set_cons_zero, List.set_cons_succ]
   refine tail_step rfl (fun K hK => ?_);go_simp;refine HL.out.mono ?_;rintro e wC ⟨q2, rfl, hl2, hbC⟩;have hgd := HG3.out.2.2 (i + 1) x1 HQ.out.2.2.2.2.1;obtain ⟨en, e1, e2, e3, e4, e5, e6⟩ := row_far HQ.out.2.2.1 (F.fit d'.t) hgd HY.out.fw HY.out.bw HB.out.2.2.1 HP.out.2.2.2.2.2 hl2;subst e1;have hgpC := (HQ.out.2.2.2.2.2.1.mono HB.out.2.1 HB.out.1).below hbC;have HGC := lh (HIH.out q HQ.out.1 wC sq p en hgpC d' HQ.out.2.1 ((F.fit d'.t) p en e2).1 (Nat.le_trans e3 HP.out.2.2.2.2.2) e2);have HE5 := lh (aI e4 (aI e5 (aI e6 (aI (gtB HB.out.2.2.2 hbC) (gtB (gtT HY.out.tu2 (gtM (gm := gm) HB.out.1)) hbC)))));refine hK _ _ ⟨fun h => by simp at h, ?_⟩;clear hK K hl2 hbC hgd e2 e3 e4 e5 e6 hgpC;try simp only [Act.put, List.setIfInBounds_toArray, List.set_cons_zero, List.set_cons_succ]
   refine tail_step rfl (fun K hK => ?_);go_simp;refine hK _ _ ⟨fun h => by simp at h, ?_⟩;clear hK K;try simp only [Act.put, List.setIfInBounds_toArray, List.set_cons_zero, List.set_cons_succ]
   refine tail_end ?_;go_wp2_with fail;go_at_call 54;with_reducible refine HGC.out.mono ?_
   rintro e wD ⟨rfl, hgD, htD⟩
   have HW := lh (show RowW S fb F L gm (semL F.T F.b (kidsOf d.t)) (evL F.T F.b (kidsOf d.t)) a z sp w1 (i + 1) en w wD from
    ⟨⟨_, hgD, by rw [HQ.out.2.2.2.2.2.2.1, rowE_next HQ.out.2.2.1 HQ.out.2.2.2.1 HE5.out.1, putE_append]⟩, gtT HE5.out.2.2.2.1 htD, gtT HE5.out.2.2.2.2 htD, HE5.out.2.1, HE5.out.2.2.1⟩)
   clear hgD htD;go_wp2_with fail;go_roundw
   case rel => exact ⟨i + 1, en, by go_num, rfl, by have := HQ.out.2.2.2.2.2.2.2.2; omega, HW⟩
   case measure =>
    have := HQ.out.2.2.2.2.2.2.2.2;show nk - (((i : Int) + 1).toNat) < nk - (i : Int).toNat;omega
  ·have hiI : ¬ (i : Int) < (nk : Int) := (by omega)
   have HPP := lh (show GrpE S fb F L gm (putE sp (evT F.T F.b d.t a z)) w (.returned (.tuple #[])) wr from by
    obtain ⟨sq, hgp, hev⟩ := HY.out.grp;refine ⟨rfl, ?_, HY.out.tu2⟩;rw [HP.out.2.1, hev, List.drop_eq_nil_iff.2 (by rw [semL_eq, List.length_map, <- HNK.out.2.2, <- HNK.out.1]; omega)];simp only [rowE]
    exact hgp)
   clear hlt hin;go_wp2_with fail;go_end0
   exact HPP.out
open Go.RowKit Go.Deep Go.Sort
def LdC (K : Rel) (lo : Int) (z r : Nat) (G B' : Nat -> Bool) (e : Nat) : Prop := G e = true /\ ((e = z /\ (lo <= (r : Int) \/ K z z = true)) \/ (e < z /\ ∃ e', e < e' /\ K e e' = true /\ B' e' = true))
structure Ld (S : Nat -> Prop) (fb : Nat) (F : FN) (L B p : Nat) (K : Rel) (lo : Int) (z r f : Nat) (G : Nat -> Bool) (gl : (Nat -> Bool) -> Nat -> Bool) (w0 : World) (m : Nat) (wr : World) (y : Ix) : Prop where
 stp : Stp S fb F L wr B p y
 fy : y.f = f
 tur : Turned (fun k => k = F.mb \/ B <= k) w0 wr
 no : ∀ j, j < m -> y.mem j = false
 is : ∀ j, m <= j -> (y.mem j = true ↔ LdC K lo z r G (gl y.mem) j)
def GlOk (gl : (Nat -> Bool) -> Nat -> Bool) : Prop := (∀ B, gl B = B) \/ ∃ B', ∀ B, gl B = B'
theorem gl_more {gl : (Nat -> Bool) -> Nat -> Bool} (h : GlOk gl) {B C : Nat -> Bool} {m : Nat} (hBC : ∀ j, m <= j -> C j = B j) (j : Nat) (hj : m <= j) : gl C j = gl B j := by
 rcases h with h | ⟨B', h⟩
 ·rw [h, h, hBC j hj]
 ·rw [h, h]
theorem LdC.congr {K : Rel} {lo : Int} {z r m : Nat} {G B C : Nat -> Bool} (h : ∀ j, m <= j -> C j = B j) {e : Nat} (he : m <= e + 1) : LdC K lo z r G C e ↔ LdC K lo z r G B e := by
 unfold LdC;constructor
 ·rintro ⟨h1, h2⟩;refine ⟨h1, h2.imp_right ?_⟩;rintro ⟨h3, e', h4, h5, h6⟩;exact ⟨h3, e', h4, h5, by rw [<- h e' (by omega)]; exact h6⟩
 ·rintro ⟨h1, h2⟩;refine ⟨h1, h2.imp_right ?_⟩;rintro ⟨h3, e', h4, h5, h6⟩;exact ⟨h3, e', h4, h5, by rw [h e' (by omega)]; exact h6⟩
theorem Ld.below {S : Nat -> Prop} {fb L B p z r f m : Nat} {F : FN} {K : Rel} {lo : Int} {G : Nat -> Bool} {gl : (Nat -> Bool) -> Nat -> Bool} {w0 wr w' : World} {y : Ix} (h : Ld S fb F L B p K lo z r f G gl w0 m wr y) (hs : Stp S fb F L w' B p y) (ht : Turned (· = F.mb) wr w') : Ld S fb F L B p K lo z r f G gl w0 m w' y :=
 ⟨hs, h.fy, h.tur.trans ht fun _ _ e => .inl e, h.no, h.is⟩
theorem Ld.go_no {S : Nat -> Prop} {fb L B p z r f m : Nat} {F : FN} {K : Rel} {lo : Int} {G : Nat -> Bool} {gl : (Nat -> Bool) -> Nat -> Bool} {w0 wr : World} {y : Ix} (h : Ld S fb F L B p K lo z r f G gl w0 (m + 1) wr y) (hn : ¬ LdC K lo z r G (gl y.mem) m) : Ld S fb F L B p K lo z r f G gl w0 m wr y :=
 ⟨h.stp, h.fy, h.tur, fun j hj => h.no j (by omega), fun j hj => by
  rcases Nat.lt_or_ge m j with e | e
  ·exact h.is j e
  ·have : j = m := (by omega);subst this;rw [h.no j (Nat.lt_succ_self _)]
   exact ⟨(fun h => by cases h), fun h => absurd h hn⟩⟩
theorem Ld.go_yes {S : Nat -> Prop} {fb L B p z r f m : Nat} {F : FN} {K : Rel} {lo : Int} {G : Nat -> Bool} {gl : (Nat -> Bool) -> Nat -> Bool} {w0 wr w2 : World} {y : Ix} (h : Ld S fb F L B p K lo z r f G gl w0 (m + 1) wr y) (hgl : GlOk gl) (hy : LdC K lo z r G (gl y.mem) m) (hmN : m <= F.N) (hfm : f <= m / 64)
  {ws' : List Nat} {A' : Option Addr} {c' : Nat} (hO : OwnI w2 B p ⟨y.f, ws', A', c'⟩) (hm : ∀ j, memN y.f ws' j = (memN y.f y.ws j || decide (j = m))) (hl : ws'.length = max y.ws.length (m / 64 - y.f + 1)) (hT : Turned (Tch p y) wr w2) (hk : ∀ k, (Ix.sl ⟨y.f, ws', A', c'⟩).ownBlock = some k -> y.sl.ownBlock = some k \/ wr.heap.size <= k) :
  Ld S fb F L B p K lo z r f G gl w0 m w2 ⟨y.f, ws', A', c'⟩ := by
 have hyf : y.f <= m / 64 := (by rw [h.fy]; exact hfm);obtain ⟨h1, _⟩ := h.stp.add hO hT hk hl (by have : m / 64 <= F.N / 64 := Nat.div_le_div_right hmN; omega);have hmem : ∀ j, (⟨y.f, ws', A', c'⟩ : Ix).mem j = (y.mem j || decide (j = m)) := hm;have hsame : ∀ j, m + 1 <= j -> (⟨y.f, ws', A', c'⟩ : Ix).mem j = y.mem j := fun j hj => by rw [hmem, dqf (by omega), Bool.or_false]
 have hgs := gl_more hgl hsame;refine ⟨h1, h.fy, h.tur.trans hT fun k _ e => .inr (h.stp.tch e), fun j hj => ?_, fun j hj => ?_⟩
 ·rw [hmem, h.no j (by omega), dqf (by omega)];rfl
 ·rw [LdC.congr hgs (by omega : m + 1 <= j + 1)];rcases Nat.lt_or_ge m j with e | e
  ·rw [hsame j e];exact h.is j e
  ·have : j = m := (by omega);subst this;rw [hmem, dqt rfl, Bool.or_true];exact ⟨fun _ => hy, fun _ => rfl⟩
def LeadE (S : Nat -> Prop) (fb : Nat) (F : FN) (L : Nat) (K : Rel) (lo : Int) (z r : Nat) (G : Nat -> Bool) (gl : (Nat -> Bool) -> Nat -> Bool) (w : World) (e : Ending) (w' : World) : Prop := ∃ y : Ix, e = .returned y.v /\ IxAt S F.N w' y /\ LeadR K lo z r G y.mem (gl y.mem) /\ FindAt S w' fb F L /\ Turned (· = F.mb) w w'
theorem ends_ex {L i : Nat} {r : Rel} {X Y : Ix} {q : Int} (hX : EndsR L r (onlyB i) X.mem) (hY : ∀ e, Y.mem e = true -> e <= L) (hl : LastIs X Y q) : (0 <= q ↔ ∃ e, i < e /\ r i e = true /\ Y.mem e = true) := by
 constructor
 ·intro h0;rcases hl with ⟨h, _⟩ | ⟨j, h, h1, h2, _⟩
  ·omega
  ·obtain ⟨a, b⟩ := (hX.one (hY j h2)).1 h1;exact ⟨j, a, b, h2⟩
 ·rintro ⟨e, h0, h1, h2⟩;rcases hl with ⟨h, h3⟩ | ⟨j, h, _⟩
  ·have := h3 e ((hX.one (hY e h2)).2 ⟨h0, h1⟩);rw [h2] at this;cases this
  ·omega
end Go.Proofs.YtflkfleihlceeaaGreatDoor

import Derived.Test.YtflkfleihlceeaaGreatDoorD12
import Derived.Test.YtflkfleihlceeaaGreatDoorD13
import Derived.Test.YtflkfleihlceeaaGreatDoorD15
import Derived.Test.YtflkfleihlceeaaGreatDoorD17
import Derived.Deep.CutBlock
import Derived.Deep.RegionHeld3
/-
 The flow of a row: one kid behind the other. Condition: the finder is in memory, the kids' longer ends are told.
-/
namespace Go.Proofs.YtflkfleihlceeaaGreatDoor
open Go.RowKit Go.Deep Go.Sort
structure RowM (S : Nat -> Prop) (fb : Nat) (F : FN) (L l : Nat) (x : Ix) (ts : List PN) (w : World) (i : Nat) (wr : World) (ys ym : Ix) : Prop where
 fin : FindAt (Pr S w 4) wr fb F L
 atS : IxAt (Pr S w 4) F.N wr ys
 atM : IxAt (Pr S w 4) F.N wr ym
 row : RowI L ((semL F.T F.b ts).take i) x.mem ys.mem ym.mem
 lowS : ys.low l
 lowM : ym.low l
 o4 : wr.heap[w.heap.size + 1]? = some (.cells #[.int .i64 0, .slice none 0 0] 68 (0, 0))
 o5 : wr.heap[w.heap.size + 2]? = some (.cells #[.int .i64 (ys.f : Int), .slice ys.A ys.ws.length ys.c] 68 (0, 0))
 o6 : wr.heap[w.heap.size + 3]? = some (.cells #[.int .i64 (ym.f : Int), .slice ym.A ym.ws.length ym.c] 68 (0, 0))
 tur : Turned (· = F.mb) w wr
theorem semL_fit (F : FN) (ts : List PN) : ∀ r ∈ semL F.T F.b ts, FitR F.N r := by rw [<- F.lenT]; exact fit_L F.T F.b ts
theorem RowM.inN {S : Nat -> Prop} {fb L l i : Nat} {F : FN} {x ys ym : Ix} {ts : List PN} {w wr : World} (h : RowM S fb F L l x ts w i wr ys ym) (hx : InN F.N x.mem) : InN F.N ys.mem /\ InN F.N ym.mem :=
 ⟨fun j hj => hx j ((h.row.st j).1 hj).1, h.row.mv.inN (FitR.row fun r hr => semL_fit F ts r (List.mem_of_mem_take hr)) hx⟩
structure RowL (S : Nat -> Prop) (fb : Nat) (F : FN) (L l : Nat) (r : Rel) (w wr : World) (ys ym : Ix) (b : Nat) (wx : World) (y1 : Ix) : Prop where
 fin : FindAt (Pr S w 4) wx fb F L
 at1 : IxAt (Pr S w 4) F.N wx y1
 is : EndsR L r (orB ys.mem ym.mem) y1.mem
 low : y1.low l
 o9 : wx.heap[b]? = some (.cells #[.int .i64 (y1.f : Int), .slice y1.A y1.ws.length y1.c] 68 (0, 0))
 new : wr.heap.size <= b
 tur : Turned (· = F.mb) wr wx
theorem RowL.alloc {S : Nat -> Prop} {fb L l : Nat} {F : FN} {r : Rel} {w wr w1 w2 : World} {ys ym y0 y1 : Ix} (h1 : Below wr.heap.size wr w1) (hm : ∀ j, y0.mem j = (ys.mem j || ym.mem j)) (g : Got (Pr S w 4) fb F L l (EndsR L r y0.mem) w1 w2 y1) {n : Nat} (hn : n = y1.ws.length) :
  RowL S fb F L l r w wr ys ym w2.heap.size (w2.alloc (.cells #[.int .i64 (y1.f : Int), .slice y1.A n y1.c] 68)) y1 := by
 have e : y0.mem = orB ys.mem ym.mem := funext hm;refine ⟨g.fin.below (bW w2 _), g.at'.stays (bW w2 _), by rw [<- e]; exact g.is, g.low, by rw [<- hn]; exact heap_alloc_new w2 _, Nat.le_trans h1.size g.tur.size, turB (turBT h1 g.tur) (bW w2 _)⟩
abbrev Pb (S : Nat -> Prop) (w : World) (b : Nat) (k : Nat) : Prop := Pr S w 4 k \/ k = b
theorem RowM.askP {S : Nat -> Prop} {fb L l i b : Nat} {F : FN} {x ys ym y0 : Ix} {ts : List PN} {w wr V : World} (h : RowM S fb F L l x ts w i wr ys ym) (hx : InN F.N x.mem) (hb : Below wr.heap.size wr V) (hbb : wr.heap.size <= b) (hbV : b < V.heap.size) (hy0 : IxAt (Pb S w b) F.N V y0) (hm : ∀ j, y0.mem j = (ys.mem j || ym.mem j)) (hl : y0.low l) : Ask (Pb S w b) fb F L l V y0 := by
 refine ⟨h.fin.priv hb (fun k hk => .inl hk) (fun k hk => hk.imp_right fun e => by omega) (fun k hk => ?_), hy0, fun j hj => ?_, hl⟩
 ·rcases hk with hk | hk
  ·exact Nat.lt_of_lt_of_le (h.fin.old k hk) hb.size
  ·omega
 ·rw [hm, Bool.or_eq_true] at hj;exact hj.elim ((h.inN hx).1 j) ((h.inN hx).2 j)
theorem RowM.askN {S : Nat -> Prop} {fb L l i : Nat} {F : FN} {x ys ym y0 : Ix} {ts : List PN} {w wr V : World} (h : RowM S fb F L l x ts w i wr ys ym) (hx : InN F.N x.mem) (hb : Below wr.heap.size wr V) (hy0 : IxAt (Pr S w 4) F.N V y0) (hm : ∀ j, y0.mem j = (ys.mem j || ym.mem j)) (hl : y0.low l) : Ask (Pr S w 4) fb F L l V y0 := by
 refine ⟨h.fin.below hb, hy0, fun j hj => ?_, hl⟩;rw [hm, Bool.or_eq_true] at hj;exact hj.elim ((h.inN hx).1 j) ((h.inN hx).2 j)
theorem RowL.put {S : Nat -> Prop} {fb L l b : Nat} {F : FN} {r : Rel} {w wr w1 w2 : World} {ys ym y0 y1 : Ix} (hS : FindAt S w fb F L) (hw : w.heap.size <= wr.heap.size) (h1 : Below wr.heap.size wr w1) (hm : ∀ j, y0.mem j = (ys.mem j || ym.mem j)) (g : Got (Pb S w b) fb F L l (EndsR L r y0.mem) w1 w2 y1) {n : Nat} (hn : n = y1.ws.length)
  (hb : wr.heap.size <= b) {u v : Value} (ho : w2.heap[b]? = some (.cells #[u, v] 68 (0, 0))) :
  RowL S fb F L l r w wr ys ym b ((w2.setCell ⟨b, 0, none⟩ (.int .i64 (y1.f : Int))).setCell ⟨b, 1, none⟩ (.slice y1.A n y1.c)) y1 := by
 obtain ⟨hp1, hp2⟩ := put_two (u' := .int .i64 (y1.f : Int)) (v' := .slice y1.A n y1.c) ho;have e : y0.mem = orB ys.mem ym.mem := funext hm;have hmb := hS.kept.lt;have hfb := lts hS.obj;have hf2 := g.fin.go (S' := Pr S w 4) hp2 (fun k hk _ => ⟨.inr hk, by omega, by omega⟩) (.inl hS.sm) (.inl hS.sf) (fun k hk => .inl (.inl hk)) (fun k hk => Nat.lt_of_lt_of_le (g.fin.old k (.inl hk)) hp2.size);exact ⟨hf2, (g.at'.turned (turned_mono hp2 fun k hk => .inr hk)).weaken fun k hk => .inl hk, by rw [<- e]; exact g.is, g.low, by rw [<- hn]; exact hp1, hb, turS (turBT h1 g.tur) hp2 hb⟩
theorem four_boxes (w : World) (u v : Value) (T : TypeId) (u' v' : Value) (T' : TypeId) (u2 v2 : Value) (T2 : TypeId) (u3 v3 : Value) (T3 : TypeId) : ∃ W, W = (((w.alloc (.cells #[u, v] T)).alloc (.cells #[u', v'] T')).alloc (.cells #[u2, v2] T2)).alloc (.cells #[u3, v3] T3) /\ Below w.heap.size w W /\ W.heap.size = w.heap.size + 4 /\ W.heap[w.heap.size + 1]? = some (.cells #[u', v'] T' (0, 0)) /\ W.heap[w.heap.size + 2]? = some (.cells #[u2, v2] T2 (0, 0)) /\ W.heap[w.heap.size + 3]? = some (.cells #[u3, v3] T3 (0, 0)) := by
 obtain ⟨V, hV, hb, hs, h1, h2⟩ := two_boxes w u v T u' v' T';refine ⟨_, rfl, ?_, ?_, ?_, ?_, ?_⟩
 ·rw [<- hV]; exact (hb.alloc hb.size _).alloc (by have := hb.size; rw [World.size_alloc]; omega) _
 ·rw [<- hV]; simp [hs]
 ·rw [<- hV]; exact old_obj' (old_obj' h2 _) _
 ·rw [<- hV, <- hs]; exact old_obj' (heap_alloc_new V _) _
 ·rw [<- hV, show w.heap.size + 3 = (V.alloc (.cells #[u2, v2] T2)).heap.size by rw [World.size_alloc, hs]]; exact heap_alloc_new _ _
theorem row_next {F : FN} {ts : List PN} {i : Nat} {t : PN} (h : ts[i]? = some t) : (semL F.T F.b ts).take (i + 1) = (semL F.T F.b ts).take i ++ [F.rel t] := take_next (by rw [semL_at, h]; rfl)
theorem RowM.go {S : Nat -> Prop} {fb L l i b : Nat} {F : FN} {x ys ym y1 zs z1 zm : Ix} {ts : List PN} {t : PN} {w wr wx w1 w2 w3 wy wz : World} (h : RowM S fb F L l x ts w i wr ys ym) (ha : FindAt S w fb F L) (ht : ts[i]? = some t) (hl : RowL S fb F L l (F.rel t) w wr ys ym b wx y1)
  (h0 : Below wx.heap.size wx w1) (hs : MadeI (Pr S w 4) F.N l w1 w2 zs (atB (F.rel t) ys.mem)) (h23 : Below w2.heap.size w2 w3) (h02 : Below w1.heap.size w1 w2) (hm1 : ∀ j, z1.mem j = atB (F.rel t) ym.mem j) (hm : MadeI (Pr S w 4) F.N l w2 w3 zm (fun j => y1.mem j || z1.mem j))
  (hy : wy = (w3.setCell ⟨w.heap.size + 2, 0, none⟩ (.int .i64 (zs.f : Int))).setCell ⟨w.heap.size + 2, 1, none⟩ (.slice zs.A zs.ws.length zs.c)) (hz : wz = (wy.setCell ⟨w.heap.size + 3, 0, none⟩ (.int .i64 (zm.f : Int))).setCell ⟨w.heap.size + 3, 1, none⟩ (.slice zm.A zm.ws.length zm.c)) : RowM S fb F L l x ts w (i + 1) wz zs zm := by
 have hmb := ha.kept.lt;have hfb := lts ha.obj;have hb3 : Below wx.heap.size wx w3 := (h0.trans (h02.mono h0.size)).trans (h23.mono (Nat.le_trans h0.size h02.size));have q4 := bobj hb3 (hl.tur.obj h.o4 (by omega)) (lts (hl.tur.obj h.o4 (by omega)));have q5 := bobj hb3 (hl.tur.obj h.o5 (by omega)) (lts (hl.tur.obj h.o5 (by omega)));have q6 := bobj hb3 (hl.tur.obj h.o6 (by omega)) (lts (hl.tur.obj h.o6 (by omega)));obtain ⟨a1, a2⟩ := put_two (u' := .int .i64 (zs.f : Int)) (v' := .slice zs.A zs.ws.length zs.c) q5;rw [<- hy] at a1 a2;obtain ⟨c1, c2⟩ := put_two (u' := .int .i64 (zm.f : Int)) (v' := .slice zm.A zm.ws.length zm.c) (a2.obj q6 (by omega));rw [<- hz] at c1 c2;have hS2 : ∀ k, k = w.heap.size + 2 -> Pr S w 4 k := fun k hk => .inr (by omega);have hS3 : ∀ k, k = w.heap.size + 3 -> Pr S w 4 k := fun k hk => .inr (by omega);have f3 := hl.fin.below hb3;have f4 : FindAt (Pr S w 4) wy fb F L := f3.go a2 (fun k hk _ => ⟨hS2 k hk, by omega, by omega⟩) (.inl ha.sm) (.inl ha.sf) (fun k hk => .inl hk) (fun k hk => Nat.lt_of_lt_of_le (f3.old k hk) a2.size);have f5 : FindAt (Pr S w 4) wz fb F L := f4.go c2 (fun k hk _ => ⟨hS3 k hk, by omega, by omega⟩) (.inl ha.sm) (.inl ha.sf) (fun k hk => .inl hk) (fun k hk => Nat.lt_of_lt_of_le (f4.old k hk) c2.size);refine ⟨f5, ((hs.at'.stays h23).turned (turned_mono a2 hS2)).turned (turned_mono c2 hS3), (hm.at'.turned (turned_mono a2 hS2)).turned (turned_mono c2 hS3), ?_, hs.low, hm.low, c2.obj (a2.obj q4 (by omega)) (by omega), c2.obj a1 (by omega), c1, ?_⟩
 ·have hrow := h.row.step (F.fit t) hl.is;rw [<- row_next ht] at hrow;have e1 : zs.mem = atB (F.rel t) ys.mem := funext hs.is;have e2 : zm.mem = orB y1.mem (atB (F.rel t) ym.mem) := funext fun j => by rw [hm.is, hm1]; rfl
  rw [e1, e2];exact hrow
 ·have := lts h.o6;exact turS (turS (turB (turT h.tur hl.tur) hb3) a2 (by omega)) c2 (by omega)
set_option maxRecDepth 100000 in
set_option maxHeartbeats 1500000 in
theorem flow_row {S : Nat -> Prop} {w : World} {fb L l : Nat} {F : FN} {x : Ix} (ha : Ask S fb F L l w x) {k b1 b2 : Nat} {d : ND} (hd : F.nds[k]? = some d) (hk : d.x.kind = 2) (hb1 : BoxO S w b1 d.bare 106) (hb2 : BoxO S w b2 #[ptrV fb] 62) (hLC : ∀ q, q < k -> LongC fb F q) :
  Calls Tryz.prog 95 #[x.v, ptrV b1, ptrV b2] w (GotE S fb F L l (EndsR L (F.rel d.t) x.mem) w) := by
 have hn := ha.fin.dat k d hd
 have hR : F.rel d.t = rowB (semL F.T F.b (kidsOf d.t)) := by
  rw [ha.fin.rel hd, hk];rfl
 rw [hR];have hlen : d.ks.length = (semL F.T F.b (kidsOf d.t)).length := (by rw [semL_eq, List.length_map, hn.len]);have hsm := ha.fin.small;obtain ⟨m, hm⟩ : ∃ m, m = x.ws.length := ⟨_, rfl⟩;have hxv : x.v = .agg #[.int .i64 (x.f : Int), .slice x.A m x.c] := (by unfold Ix.v; rw [hm]);rw [hxv];obtain ⟨W, hW, hbW, hsW, o4, o5, o6⟩ := four_boxes w (.int .i64 (x.f : Int)) (.slice x.A m x.c) 68 (.int .i64 0) (.slice none 0 0) 68 (.int .i64 (x.f : Int)) (.slice x.A m x.c) 68 (.int .i64 0) (.slice none 0 0) 68;have hmb : F.mb < w.heap.size := ha.fin.kept.lt;have HA := lh ha;have HL := lh fun (q : Nat) (hq : q < k) (d' : ND) (hd' : F.nds[q]? = some d') (T : Nat -> Prop) (V : World) (y : Ix) (h : Ask T fb F L l V y) => hLC q hq T V L l y d' h hd';have HEM := lh fun (q : Nat) (d' : ND) (hd' : F.nds[q]? = some d') (T : Nat -> Prop) (V : World) (y : Ix) (h : Ask T fb F L l V y) => empties_is h hd';have HKD := lh fun (i q : Nat) (h : d.ks[i]? = some q) => hn.kid i q h;have HKA := lh fun (V : World) (ht : Turned (· = F.mb) w V) => (ha.fin.mem k d hd).kids.turned (turned_mono ht fun j hj => (by rw [hj]; exact ha.fin.sm : S j));have c1 : W.cell? ⟨b1, 9, none⟩ = some (.slice d.kA d.ks.length d.kc) := (by rw [obc (bobj hbW hb1.1 (lts hb1.1))]; rfl);have hb2n : b2 ≠ F.mb := fun e => hb2.2 (by rw [e]; exact ha.fin.sm);have HBL := lh (lts hb2.1);have HB2 := lh fun (V : World) (ht : Turned (· = F.mb) w V) => (show V.cell? ⟨b2, 0, none⟩ = some (ptrV fb) by rw [obc (ht.obj hb2.1 hb2n)]; rfl)
 have HM0 := lh (show RowM S fb F L l x (kidsOf d.t) w 0 W x ⟨0, [], none, 0⟩ from
  ⟨ha.fin.pr 4 hbW (by omega), (ha.at'.pr 4).stays hbW, ⟨.nil _ _ _, nlr _, (fun m h => by cases h), Nat.zero_le _⟩, by
   have h := RowI.start L x.mem;have e : (⟨0, [], none, 0⟩ : Ix).mem = noneB := funext fun j => mem_nil _ rfl j
   rw [e]; exact h, ha.low, .inl rfl, o4, by rw [<- hm]; exact o5, o6, Turned.of_below hbW⟩)
 have HM := lh (aI hm (aI hlen (aI hbW hsW)));have HSM := lh hsm;obtain ⟨nk, hnk⟩ : ∃ n, n = d.ks.length := ⟨_, rfl⟩;have HNK := lh hnk;rw [<- hnk] at c1;have HNB := lh (show nk <= 100000 from by rw [hnk]; exact hn.many)
 have hkA : nk = 0 \/ ∃ g o, d.kA = some ⟨g, o, none⟩ := by
  rcases (HKA.out w (Turned.refl _ w)) with h | ⟨g, o, h, _⟩
  ·left;have : (intsV d.ks).length = 0 := (by rw [h]; rfl);rw [hnk];simpa [intsV] using this
  ·exact .inr ⟨g, o, h⟩
 by_cases hn0 : nk = 0
 ·clear hm hxv ha hmb hbW hsW hb1 hb2 hd hLC hk hn hR hlen hsm o4 o5 o6 hb2n hnk;go_enter Tryz.func95, Tryz.ntmps95;go_upto_region 2 with fail;rw [<- hW];clear hW;go_upto_region 3 with fail;clear c1;go_loopw [8, 9, 15] (fun _ _ iv wr => ∃ (i : Nat) (ys ym : Ix), iv = .int .i64 (i : Int) /\ i <= nk /\ Hid (RowM S fb F L l x (kidsOf d.t) w i wr ys ym)) (fun _ _ iv _ => nk - (intOf iv).toNat)
  case atStart => exact ⟨0, x, ⟨0, [], none, 0⟩, rfl, Nat.zero_le _, HM0⟩
  case round =>
   obtain ⟨i, ys, ym, rfl, hin, HY⟩ := hrel;have he : i = nk := (by omega);subst he;have hiI : ¬ (i : Int) < (i : Int) := Int.lt_irrefl _
   have HEX := lh (show EndsR L (rowB (semL F.T F.b (kidsOf d.t))) x.mem ym.mem by
    have h := HY.out.row.mv;rw [List.take_of_length_le (by rw [<- HM.out.2.1, <- HNK.out]; exact nlr _)] at h
    exact h)
   clear hin;obtain ⟨n, hny⟩ : ∃ n, n = ym.ws.length := ⟨_, rfl⟩;have h6 := HY.out.o6;rw [<- hny] at h6;obtain ⟨e0, e1, eg0, eg1, el⟩ := box_all h6;obtain ⟨r0, r1, rg0, rg1, rl⟩ := box_all HY.out.o4;have HP := lh (got_ret (b := w.heap.size + 1) (n0 := 4) (R := EndsR L (rowB (semL F.T F.b (kidsOf d.t))) x.mem) HA.out.fin HY.out.tur (by omega) (by omega) HY.out.fin HY.out.atM HEX.out HY.out.lowM HY.out.o4 hny);clear hny h6;go_wp2_with fail;refine bodyPost_ret (v := .agg #[.int .i64 (ym.f : Int), .slice ym.A n ym.c]) (by simp [results, Tryz.results95, go_sem, r0, r1]) rfl HP.out
 ·obtain ⟨g, o, hA⟩ := hkA.resolve_left hn0
  have HKC := lh fun (i q : Nat) (hq : d.ks[i]? = some q) (V : World) (ht : Turned (· = F.mb) w V) => (show V.cell? ⟨g, o + i, none⟩ = some (.int .i64 (q : Int)) by
   obtain ⟨g', o', h1, _, h2⟩ := (HKA.out V ht).cell (intsV_at hq);rw [hA] at h1;cases h1
   exact h2)
  rw [hA] at c1;clear hkA hA hn0;clear hm hxv ha hmb hbW hsW hb1 hb2 hd hLC hk hn hR hlen hsm o4 o5 o6 hb2n hnk;go_enter Tryz.func95, Tryz.ntmps95;go_upto_region 2 with fail;rw [<- hW];clear hW;go_upto_region 3 with fail;clear c1;go_loopw [8, 9, 15] (fun _ _ iv wr => ∃ (i : Nat) (ys ym : Ix), iv = .int .i64 (i : Int) /\ i <= nk /\ Hid (RowM S fb F L l x (kidsOf d.t) w i wr ys ym)) (fun _ _ iv _ => nk - (intOf iv).toNat)
  case atStart => exact ⟨0, x, ⟨0, [], none, 0⟩, rfl, Nat.zero_le _, HM0⟩
  case round =>
   obtain ⟨i, ys, ym, rfl, hin, HY⟩ := hrel;by_cases hlt : i < nk
   ·obtain ⟨q, hq⟩ : ∃ q, d.ks[i]? = some q := ⟨d.ks[i]'(by rw [<- HNK.out]; exact hlt), List.getElem?_eq_getElem _⟩;obtain ⟨hqk, d', hd', ht⟩ := HKD.out i q hq;have hc := HKC.out i q hq wr HY.out.tur;have hbx := HB2.out wr HY.out.tur;have hbxl : b2 < wr.heap.size := World.block_lt_of_cell? _ _ hbx;have hiI : (i : Int) < (nk : Int) := (by omega);have hi0 : (0 : Int) <= (i : Int) := (by omega);have hwi : wrap64 ((i : Int) + 1) = (i : Int) + 1 := IntWalk.wrap64_in _ (by have := HNB.out; omega);have hib : i < 1099511627776 := (by have := HNB.out; omega);have HQ := lh (aI hqk (aI hd' (aI ht hlt)));obtain ⟨ns, hns⟩ : ∃ n, n = ys.ws.length := ⟨_, rfl⟩;obtain ⟨nm, hnm⟩ : ∃ n, n = ym.ws.length := ⟨_, rfl⟩;have hsv : ys.v = .agg #[.int .i64 (ys.f : Int), .slice ys.A ns ys.c] := (by unfold Ix.v; rw [hns]);have hmv : ym.v = .agg #[.int .i64 (ym.f : Int), .slice ym.A nm ym.c] := (by unfold Ix.v; rw [hnm]);have h5 := HY.out.o5;have h6 := HY.out.o6;rw [<- hns] at h5;rw [<- hnm] at h6;obtain ⟨s0, s1, _, _, sl⟩ := box_all h5;obtain ⟨m0, m1, _, _, ml⟩ := box_all h6;have HJ := lh fun (T : Nat -> Prop) (V : World) (hT : ∀ k, T k -> k < V.heap.size) (h1 : IxAt T F.N V ys) (h2 : IxAt T F.N V ym) => join_ix (S := T) (l := l) (a := ys) (b := ym) (w := V) hT (by have := HSM.out; omega) h1 h2 HY.out.lowS HY.out.lowM;rw [hsv, hmv] at HJ;have HLQ := lh (HL.out q hqk d' hd');have HH := lh (aI h5 (aI h6 (aI hns (aI hnm (aI hsv hmv)))));clear hqk hd' ht hq hlt hns hnm hsv hmv h5 h6;go_upto_region 5 with fail;go_cut [9] from 19 to 24 (fun t9 wx => ∃ b y1, t9 = ptrV b /\ RowL S fb F L l (F.rel d'.t) w wr ys ym b wx y1)
    case first =>
     have bZ : Below wr.heap.size wr (wr.drew.alloc (.cells #[.int .i64 0, .slice none 0 0] 68)) := (bDr (Below.refl wr.heap.size wr)).alloc (nlr _) _;have HBZ := lh bZ;clear bZ
     have HF := lh fun (V : World) (ht : Turned (· = F.mb) wr V) => (show V.cell? ⟨b2, 0, none⟩ = some (ptrV fb) /\ V.cell? ⟨w.heap.size + 1 + 1, 0, none⟩ = some (.int .i64 (ys.f : Int)) /\ V.cell? ⟨w.heap.size + 1 + 1, 1, none⟩ = some (.slice ys.A ns ys.c) /\ V.cell? ⟨w.heap.size + 1 + 1 + 1, 0, none⟩ = some (.int .i64 (ym.f : Int)) /\ V.cell? ⟨w.heap.size + 1 + 1 + 1, 1, none⟩ = some (.slice ym.A nm ym.c) by
      have hmb := HA.out.fin.kept.lt;obtain ⟨a1, a2⟩ := two_cells (ht.obj HH.out.1 (by omega));obtain ⟨a3, a4⟩ := two_cells (ht.obj HH.out.2.1 (by omega))
      exact ⟨HB2.out V (turT HY.out.tur ht), a1, a2, a3, a4⟩)
     clear hbx hbxl s0 s1 sl m0 m1 ml
     go_region_held3 (fun wx => wx.cell? ⟨b2, 0, none⟩ = some (ptrV fb) /\ wx.cell? ⟨w.heap.size + 1 + 1, 0, none⟩ = some (.int .i64 (ys.f : Int)) /\ wx.cell? ⟨w.heap.size + 1 + 1, 1, none⟩ = some (.slice ys.A ns ys.c) /\ wx.cell? ⟨w.heap.size + 1 + 1 + 1, 0, none⟩ = some (.int .i64 (ym.f : Int)) /\ wx.cell? ⟨w.heap.size + 1 + 1 + 1, 1, none⟩ = some (.slice ym.A nm ym.c))
      (first
       | exact HF.out _ (Turned.of_below (bDr (Below.refl wr.heap.size wr)))
       | exact HF.out _ (Turned.of_below HBZ.out)
       | exact HF.out _ (Turned.of_below HW1.out)
       | exact HF.out _ (Turned.of_below (HW1.out.alloc HW1.out.size _))
       | exact HF.out _ HT2.out
       | exact HF.out _ (turB HT2.out (bW w2 _))
       | exact HF.out _ (turS HT2.out (put_two HP9.out).2 (nlr _))
       | exact HF.out _ (turS HT2.out (put_two HP9.out).2 HW1.out.size))
      (first
      | (go_at_call 49
         first
         | (refine (HJ.out (Pb S w wr.heap.size) (wr.drew.alloc (.cells #[.int .i64 0, .slice none 0 0] 68)) (fun k hk => hk.elim (fun hk => Nat.lt_of_lt_of_le (HY.out.fin.old k hk) HBZ.out.size) fun hk => by rw [hk, World.size_alloc]; exact Nat.lt_succ_self _) ((HY.out.atS.fresh fun k hk => hk.imp_right fun e => Nat.le_of_eq e.symm).stays HBZ.out) ((HY.out.atM.fresh fun k hk => hk.imp_right fun e => Nat.le_of_eq e.symm).stays HBZ.out)).mono ?_
            rintro e w1 ⟨y0, he, hm0, hb1⟩;have HZ := lh (show w1.heap[wr.heap.size]? = some (.cells #[.int .i64 0, .slice none 0 0] 68 (0, 0)) from bobj hb1 (heap_alloc_new wr.drew _) (by rw [World.size_alloc]; exact Nat.lt_succ_self _));have HW1 := lh (HBZ.out.trans (hb1.mono HBZ.out.size))
            have HAK := lh (HY.out.askP HA.out.inN HW1.out (nlr _) (lts HZ.out) hm0.at' hm0.is hm0.low))
         | (refine (HJ.out (Pr S w 4) wr.drew (fun k hk => HY.out.fin.old k hk) (HY.out.atS.stays (bDr (Below.refl wr.heap.size wr))) (HY.out.atM.stays (bDr (Below.refl wr.heap.size wr)))).mono ?_
            rintro e w1 ⟨y0, he, hm0, hb1⟩;have HW1 := lh ((bDr (Below.refl wr.heap.size wr)).trans hb1);have HAN := lh (HY.out.askN HA.out.inN HW1.out hm0.at' hm0.is hm0.low)
            have HAB := lh (HY.out.askP (V := w1.alloc (.cells #[.int .i64 0, .slice none 0 0] 68)) HA.out.inN (HW1.out.alloc HW1.out.size _) HW1.out.size (by rw [World.size_alloc]; exact Nat.lt_succ_self _) ((hm0.at'.fresh fun k hk => hk.imp_right fun e => Nat.le_of_eq e.symm).stays (bW w1 _)) hm0.is hm0.low))
         obtain ⟨n0, hn0⟩ : ∃ n, n = y0.ws.length := ⟨_, rfl⟩;have hv0 : y0.v = .agg #[.int .i64 (y0.f : Int), .slice y0.A n0 y0.c] := (by unfold Ix.v; rw [hn0]);rw [hv0] at he;subst he;have HV0 := lh (aI hv0 hm0.is)
         clear hm0 hb1 hn0 hv0)
      | (go_at_call 50
         first
         | (have hk := HLQ.out _ _ _ HAK.out
            rw [HV0.out.1] at hk;refine hk.mono ?_;clear hk;rintro e w2 ⟨y1, he, hg1⟩;have p9 := hg1.tur.obj HZ.out (by have := HA.out.fin.kept.lt; have := HM.out.2.2.2; have := HY.out.tur.size; have := HM.out.2.2.1.size; omega);have HP9 := lh p9;obtain ⟨z0, z1, zg0, zg1, zl⟩ := box_all p9
            clear p9)
         | (have hk := HLQ.out _ _ _ HAB.out
            rw [HV0.out.1] at hk;refine hk.mono ?_;clear hk;rintro e w2 ⟨y1, he, hg1⟩;have p9 := hg1.tur.obj (heap_alloc_new w1 _) (by have := HA.out.fin.kept.lt; have := HW1.out.size; have := HY.out.tur.size; omega);have HP9 := lh p9;obtain ⟨z0, z1, zg0, zg1, zl⟩ := box_all p9
            clear p9)
         | (have hk := HLQ.out _ _ _ HAN.out
            rw [HV0.out.1] at hk;refine hk.mono ?_;clear hk
            rintro e w2 ⟨y1, he, hg1⟩)
         obtain ⟨n1, hn1⟩ : ∃ n, n = y1.ws.length := ⟨_, rfl⟩;have hv1 : y1.v = .agg #[.int .i64 (y1.f : Int), .slice y1.A n1 y1.c] := (by unfold Ix.v; rw [hn1]);rw [hv1] at he;subst he;have HG1 := lh hg1;have HT2 := lh (show Turned (· = F.mb) wr w2 from by first | exact turBT HW1.out hg1.tur | exact turBT (HW1.out.alloc HW1.out.size _) hg1.tur);have HN1 := lh hn1
         clear hg1 hn1 hv1))
     all_goals
      go_wp2_with fail;go_meet
      case rel =>
       first
       | exact ⟨_, y1, rfl, RowL.put HA.out.fin HY.out.tur.size HW1.out HV0.out.2 HG1.out HN1.out (nlr _) HP9.out⟩
       | exact ⟨_, y1, rfl, RowL.put HA.out.fin HY.out.tur.size (HW1.out.alloc HW1.out.size _) HV0.out.2 HG1.out HN1.out HW1.out.size HP9.out⟩
       | exact ⟨_, y1, rfl, RowL.alloc HW1.out HV0.out.2 HG1.out HN1.out⟩
    obtain ⟨b, y1, rfl, hRL⟩ := hcut;have HRL := lh hRL;have hmbl := HA.out.fin.kept.lt;obtain ⟨n1, hn1⟩ : ∃ n, n = y1.ws.length := ⟨_, rfl⟩;have hv1 : y1.v = .agg #[.int .i64 (y1.f : Int), .slice y1.A n1 y1.c] := (by unfold Ix.v; rw [hn1]);have p5 := hRL.tur.obj HH.out.1 (by omega);have p6 := hRL.tur.obj HH.out.2.1 (by omega);have p9 := hRL.o9;rw [<- hn1] at p9
    have HF := lh fun (V : World) (hV : Below wc.heap.size wc V) => (show V.heap[w.heap.size + 2]? = _ /\ V.heap[w.heap.size + 3]? = _ /\ V.heap[b]? = _ /\ V.cell? ⟨b2, 0, none⟩ = some (ptrV fb) /\ b2 < V.heap.size from
     ⟨bobj hV p5 (lts p5), bobj hV p6 (lts p6), bobj hV p9 (lts p9), HB2.out V (turB (turT HY.out.tur hRL.tur) hV), World.block_lt_of_cell? _ _ (HB2.out V (turB (turT HY.out.tur hRL.tur) hV))⟩)
    have HES := lh fun (V : World) (hV : Below wc.heap.size wc V) => HEM.out q d' HQ.out.2.1 (Pr S w 4) V ys ⟨hRL.fin.below hV, (HY.out.atS.turned (turned_mono hRL.tur fun k hk => by rw [hk]; exact .inl HA.out.fin.sm)).stays hV, (HY.out.inN HA.out.inN).1, HY.out.lowS⟩;have HEN := lh fun (V : World) (hV : Below wc.heap.size wc V) => HEM.out q d' HQ.out.2.1 (Pr S w 4) V ym ⟨hRL.fin.below hV, (HY.out.atM.turned (turned_mono hRL.tur fun k hk => by rw [hk]; exact .inl HA.out.fin.sm)).stays hV, (HY.out.inN HA.out.inN).2, HY.out.lowM⟩;rw [HH.out.2.2.2.2.1] at HES;rw [HH.out.2.2.2.2.2] at HEN;have HJ1 := lh fun (V : World) (hV : Below wc.heap.size wc V) (z : Ix) (hz : IxAt (Pr S w 4) F.N V z) (hl : z.low l) => join_ix (S := Pr S w 4) (l := l) (a := y1) (b := z) (w := V) (fun k hk => Nat.lt_of_lt_of_le (hRL.fin.old k hk) hV.size) (by have := HSM.out; omega) (hRL.at1.stays hV) hz hRL.low hl;rw [hv1] at HJ1;obtain ⟨k50, k51, _, _, k5l⟩ := box_all p5;obtain ⟨k60, k61, _, _, k6l⟩ := box_all p6;obtain ⟨k90, k91, _, _, k9l⟩ := box_all p9;obtain ⟨_, _, _, hbc, hbcl⟩ := HF.out wc (Below.refl wc.heap.size wc);have HN1 := lh hn1;clear hRL hmbl hn1 hv1 p5 p6 p9 s0 s1 sl m0 m1 ml hbx hbxl hc;go_upto_region 6 with fail;go_cut [] from 25 to 34 (fun wx => ∃ zs zm : Ix, RowM S fb F L l x (kidsOf d.t) w (i + 1) wx zs zm)
    case first =>
     have HS := lh fun (V : World) (hV : Below wc.heap.size wc V) => (show V.cell? ⟨b2, 0, none⟩ = some (ptrV fb) /\ V.cell? ⟨w.heap.size + 1 + 1, 0, none⟩ = some (.int .i64 (ys.f : Int)) /\ V.cell? ⟨w.heap.size + 1 + 1, 1, none⟩ = some (.slice ys.A ns ys.c) /\ V.cell? ⟨w.heap.size + 1 + 1 + 1, 0, none⟩ = some (.int .i64 (ym.f : Int)) /\ V.cell? ⟨w.heap.size + 1 + 1 + 1, 1, none⟩ = some (.slice ym.A nm ym.c) /\ V.cell? ⟨b, 0, none⟩ = some (.int .i64 (y1.f : Int)) /\ V.cell? ⟨b, 1, none⟩ = some (.slice y1.A n1 y1.c) by
      obtain ⟨g5, g6, g9, hb, _⟩ := HF.out V hV
      exact ⟨hb, (two_cells g5).1, (two_cells g5).2, (two_cells g6).1, (two_cells g6).2, (two_cells g9).1, (two_cells g9).2⟩)
     clear hbc hbcl k90 k91 k9l k50 k51 k5l k60 k61 k6l;refine wp_region_heads (fun wx => wx.cell? ⟨b2, 0, none⟩ = some (ptrV fb) /\ wx.cell? ⟨w.heap.size + 1 + 1, 0, none⟩ = some (.int .i64 (ys.f : Int)) /\ wx.cell? ⟨w.heap.size + 1 + 1, 1, none⟩ = some (.slice ys.A ns ys.c) /\ wx.cell? ⟨w.heap.size + 1 + 1 + 1, 0, none⟩ = some (.int .i64 (ym.f : Int)) /\ wx.cell? ⟨w.heap.size + 1 + 1 + 1, 1, none⟩ = some (.slice ym.A nm ym.c) /\ wx.cell? ⟨b, 0, none⟩ = some (.int .i64 (y1.f : Int)) /\ wx.cell? ⟨b, 1, none⟩ = some (.slice y1.A n1 y1.c)) [0, 1, 2, 4, 5, 6, 7] [3, 8, 9, 10, 11] [10, 11] (by kernel_rfl) (by kernel_rfl) (by kernel_rfl) (fun c a d v w h => hq_body (P := Tryz.prog) (fn := Tryz.f95) c a d v w h) (by kernel_rfl) (HS.out _ (bDr (Below.refl wc.heap.size wc))) ?_;refine heads_step (v := ?_) rfl (by rfl) (fun wx hSw => ?_) ?_;rotate_left
     ·obtain ⟨u0, u1, u2, u3, u4, u5, u6⟩ := hSw;go_simp;try with_reducible rfl
     simp only [Act.put, List.setIfInBounds_toArray];refine heads_step (v := ?_) rfl (by rfl) (fun wx hSw => ?_) ?_;rotate_left
     ·obtain ⟨u0, u1, u2, u3, u4, u5, u6⟩ := hSw;go_simp;try with_reducible rfl
     simp only [Act.put];refine heads_step (v := ?_) rfl (by rfl) (fun wx hSw => ?_) ?_;rotate_left
     ·obtain ⟨u0, u1, u2, u3, u4, u5, u6⟩ := hSw;go_simp;try with_reducible rfl
     simp only [Act.put];refine heads_step (v := ?_) rfl (by rfl) (fun wx hSw => ?_) ?_;rotate_left
     ·obtain ⟨u0, u1, u2, u3, u4, u5, u6⟩ := hSw;go_simp;try with_reducible rfl
     simp only [Act.put];refine heads_step (v := ?_) rfl (by rfl) (fun wx hSw => ?_) ?_;rotate_left
     ·obtain ⟨u0, u1, u2, u3, u4, u5, u6⟩ := hSw;go_simp;try with_reducible rfl
     simp only [Act.put];refine heads_step (v := ?_) rfl (by rfl) (fun wx hSw => ?_) ?_;rotate_left
     ·obtain ⟨u0, u1, u2, u3, u4, u5, u6⟩ := hSw;go_simp;try with_reducible rfl
     simp only [Act.put];refine heads_step (v := ?_) rfl (by rfl) (fun wx hSw => ?_) ?_;rotate_left
     ·obtain ⟨u0, u1, u2, u3, u4, u5, u6⟩ := hSw;go_simp;try with_reducible rfl
     simp only [Act.put];refine heads_end ?_;refine tail_step rfl (fun K hK => ?_);go_simp;refine (HES.out _ (bDr (Below.refl wc.heap.size wc))).mono ?_;rintro e w1 ⟨zs, he, hs, hb1⟩;obtain ⟨nz, hnz⟩ : ∃ n, n = zs.ws.length := ⟨_, rfl⟩;have hvz : zs.v = .agg #[.int .i64 (zs.f : Int), .slice zs.A nz zs.c] := (by unfold Ix.v; rw [hnz]);rw [hvz] at he;subst he;have HW1 := lh ((bDr (Below.refl wc.heap.size wc)).trans hb1);have HZS := lh (aI hs hnz);refine hK _ _ ⟨fun _ => HS.out _ HW1.out, ?_⟩;clear hs hb1 hnz hvz hK K;try simp only [Act.put, List.setIfInBounds_toArray, List.set_cons_zero, List.set_cons_succ]
     refine tail_step rfl (fun K hK => ?_);go_simp;refine (HEN.out _ HW1.out).mono ?_;rintro e w2 ⟨z1, he, hs, hb2⟩;obtain ⟨nz1, hnz⟩ : ∃ n, n = z1.ws.length := ⟨_, rfl⟩;have hvz : z1.v = .agg #[.int .i64 (z1.f : Int), .slice z1.A nz1 z1.c] := (by unfold Ix.v; rw [hnz]);rw [hvz] at he;subst he;have HW2 := lh (aI (HW1.out.trans (hb2.mono HW1.out.size)) hb2);have HZ1 := lh hs;have hj := HJ1.out w2 HW2.out.1 z1 hs.at' hs.low;rw [hvz] at hj;have HJ2 := lh hj;refine hK _ _ ⟨fun _ => HS.out _ HW2.out.1, ?_⟩;clear hs hb2 hnz hvz hj hK K;try simp only [Act.put, List.setIfInBounds_toArray, List.set_cons_zero, List.set_cons_succ]
     refine tail_step rfl (fun K hK => ?_);go_simp;refine HJ2.out.mono ?_;rintro e w3 ⟨zm, he, hm3, hb3⟩;obtain ⟨nzm, hnz⟩ : ∃ n, n = zm.ws.length := ⟨_, rfl⟩;have hvz : zm.v = .agg #[.int .i64 (zm.f : Int), .slice zm.A nzm zm.c] := (by unfold Ix.v; rw [hnz]);rw [hvz] at he;subst he;have HW3 := lh (aI (HW2.out.1.trans (hb3.mono HW2.out.1.size)) hb3);have HZM := lh (aI hm3 hnz);obtain ⟨g5, g6, _, _, _⟩ := HF.out w3 HW3.out.1;obtain ⟨t50, t51, tg50, tg51, t5l⟩ := box_all g5;obtain ⟨t60, t61, tg60, tg61, t6l⟩ := box_all g6;refine hK _ _ ⟨fun _ => HS.out _ HW3.out.1, ?_⟩;clear hm3 hb3 hnz hvz g5 g6 hK K;try simp only [Act.put, List.setIfInBounds_toArray, List.set_cons_zero, List.set_cons_succ]
     refine tail_step rfl (fun K hK => ?_);go_simp;refine hK _ _ ⟨fun h => by simp at h, ?_⟩;clear hK K;try simp only [Act.put, List.setIfInBounds_toArray, List.set_cons_zero, List.set_cons_succ]
     refine tail_step rfl (fun K hK => ?_);go_simp;refine hK _ _ ⟨fun h => by simp at h, ?_⟩;clear hK K;try simp only [Act.put, List.setIfInBounds_toArray, List.set_cons_zero, List.set_cons_succ]
     refine tail_end ?_;go_wp2_with fail;go_meet
     case rel =>
      have e1 := HZS.out.2;have e2 := HZM.out.2;subst e1 e2;exact ⟨zs, zm, HY.out.go HA.out.fin HQ.out.2.2.1 HRL.out (Below.refl wc.heap.size wc) ⟨HZS.out.1.at', HZS.out.1.is, HZS.out.1.low⟩ (HW2.out.2.trans (HW3.out.2.mono HW2.out.2.size)) HW1.out (fun j => HZ1.out.is j) ⟨HZM.out.1.at', HZM.out.1.is, HZM.out.1.low⟩ rfl rfl⟩
    obtain ⟨zs, zm, hZ⟩ := hcut;rename_i wd;have HZ := lh hZ;obtain ⟨nz, hnz⟩ : ∃ n, n = zs.ws.length := ⟨_, rfl⟩;obtain ⟨nzm, hnzm⟩ : ∃ n, n = zm.ws.length := ⟨_, rfl⟩;have hvz : zs.v = .agg #[.int .i64 (zs.f : Int), .slice zs.A nz zs.c] := (by unfold Ix.v; rw [hnz]);have hvm : zm.v = .agg #[.int .i64 (zm.f : Int), .slice zm.A nzm zm.c] := (by unfold Ix.v; rw [hnzm]);have h5 := hZ.o5;have h6 := hZ.o6;rw [<- hnz] at h5;rw [<- hnzm] at h6;obtain ⟨t50, t51, _, _, t5l⟩ := box_all h5;have HE1 := lh (empty_ix hZ.atS (by have := HSM.out; omega) hZ.fin.deb);have HE2 := lh fun (V : World) (hV : Below wc.heap.size wc V) => empty_ix (hZ.atM.stays hV) (by have := HSM.out; omega) (hZ.fin.deb.below hV);rw [hvz] at HE1;rw [hvm] at HE2;have H56 := lh h6
    have HBE := lh fun (V : World) (hV : Below wc.heap.size wc V) => (show RowM S fb F L l x (kidsOf d.t) w (i + 1) V zs zm from
     ⟨hZ.fin.below hV, hZ.atS.stays hV, hZ.atM.stays hV, hZ.row, hZ.lowS, hZ.lowM, bobj hV hZ.o4 (lts hZ.o4), bobj hV hZ.o5 (lts hZ.o5), bobj hV hZ.o6 (lts hZ.o6), turB hZ.tur hV⟩)
    clear hZ hnz hnzm hvz hvm h5 h6 k50 k51 k5l k60 k61 k6l k90 k91 k9l hbc hbcl;go_wp2_with fail;go_at_call 78;refine HE1.out.mono ?_;rintro e w7 ⟨eb1, rfl, het1, hef1, hb7⟩;have HB7 := lh hb7;cases eb1
    ·have HR7 := lh (HBE.out w7 hb7);clear het1 hef1 hb7 t50 t51 t5l;go_wp2_with fail;go_roundw
     case rel => exact ⟨i + 1, zs, zm, by go_num, HQ.out.2.2.2, HR7⟩
     case measure => simp only [intOf]; exact bet_meas HQ.out.2.2.2
    ·have HT1 := lh (het1 rfl);obtain ⟨t60, t61, _, _, t6l⟩ := box_all (bobj hb7 H56.out (lts H56.out));clear het1 hef1 hb7 t50 t51 t5l;go_wp2_with fail;go_at_call 78;refine (HE2.out w7 HB7.out).mono ?_;rintro e w8 ⟨eb2, rfl, het2, hef2, hb8⟩;have HR8 := lh (HBE.out w8 (HB7.out.trans (hb8.mono HB7.out.size)));cases eb2
     ·clear het2 hef2 hb8 t60 t61 t6l;go_wp2_with fail;go_roundw
      case rel => exact ⟨i + 1, zs, zm, by go_num, HQ.out.2.2.2, HR8⟩
      case measure => simp only [intOf]; exact bet_meas HQ.out.2.2.2
     ·have HZ7 := HR8
      have HEX := lh (show EndsR L (rowB (semL F.T F.b (kidsOf d.t))) x.mem zm.mem by
       have h := HR8.out.row.stop HT1.out (het2 rfl) ((semL F.T F.b (kidsOf d.t)).drop (i + 1));rw [List.take_append_drop] at h
       exact h)
      clear het2 hef2 hb8 t60 t61 t6l;obtain ⟨n, hny⟩ : ∃ n, n = zm.ws.length := ⟨_, rfl⟩;have h6 := HZ7.out.o6;rw [<- hny] at h6;obtain ⟨e0, e1, eg0, eg1, el⟩ := box_all h6;obtain ⟨r0, r1, rg0, rg1, rl⟩ := box_all HZ7.out.o4;have HP := lh (got_ret (b := w.heap.size + 1) (n0 := 4) (R := EndsR L (rowB (semL F.T F.b (kidsOf d.t))) x.mem) HA.out.fin HZ7.out.tur (by omega) (by omega) HZ7.out.fin HZ7.out.atM HEX.out HZ7.out.lowM HZ7.out.o4 hny);clear hny h6;go_wp2_with fail;refine bodyPost_ret (v := .agg #[.int .i64 (zm.f : Int), .slice zm.A n zm.c]) (by simp [results, Tryz.results95, go_sem, r0, r1]) rfl HP.out
   ·have he : i = nk := (by omega);subst he;have hiI : ¬ (i : Int) < (i : Int) := Int.lt_irrefl _
    have HEX := lh (show EndsR L (rowB (semL F.T F.b (kidsOf d.t))) x.mem ym.mem by
     have h := HY.out.row.mv;rw [List.take_of_length_le (by rw [<- HM.out.2.1, <- HNK.out]; exact nlr _)] at h
     exact h)
    clear hin;obtain ⟨n, hny⟩ : ∃ n, n = ym.ws.length := ⟨_, rfl⟩;have h6 := HY.out.o6;rw [<- hny] at h6;obtain ⟨e0, e1, eg0, eg1, el⟩ := box_all h6;obtain ⟨r0, r1, rg0, rg1, rl⟩ := box_all HY.out.o4;have HP := lh (got_ret (b := w.heap.size + 1) (n0 := 4) (R := EndsR L (rowB (semL F.T F.b (kidsOf d.t))) x.mem) HA.out.fin HY.out.tur (by omega) (by omega) HY.out.fin HY.out.atM HEX.out HY.out.lowM HY.out.o4 hny);clear hny h6;go_wp2_with fail;refine bodyPost_ret (v := .agg #[.int .i64 (ym.f : Int), .slice ym.A n ym.c]) (by simp [results, Tryz.results95, go_sem, r0, r1]) rfl HP.out
open Go.RowKit Go.Deep Go.Sort
structure RepB (S : Nat -> Prop) (fb : Nat) (F : FN) (L l : Nat) (x : Ix) (w : World) (wr : World) (xf xe : Ix) : Prop where
 fin : FindAt (Pr S w 4) wr fb F L
 atF : IxAt (Pr S w 4) F.N wr xf
 atE : IxAt (Pr S w 4) F.N wr xe
 lowF : xf.low l
 lowE : xe.low l
 inF : InN F.N xf.mem
 o7 : wr.heap[w.heap.size + 1]? = some (.cells #[.int .i64 0, .slice none 0 0] 68 (0, 0))
 o8 : wr.heap[w.heap.size + 2]? = some (.cells #[.int .i64 (xf.f : Int), .slice xf.A xf.ws.length xf.c] 68 (0, 0))
 o10 : wr.heap[w.heap.size + 3]? = some (.cells #[.int .i64 (xe.f : Int), .slice xe.A xe.ws.length xe.c] 68 (0, 0))
 tur : Turned (· = F.mb) w wr
theorem RepB.below {S : Nat -> Prop} {fb L l : Nat} {F : FN} {x xf xe : Ix} {w wr V : World} (h : RepB S fb F L l x w wr xf xe) (hV : Below wr.heap.size wr V) : RepB S fb F L l x w V xf xe :=
 ⟨h.fin.below hV, h.atF.stays hV, h.atE.stays hV, h.lowF, h.lowE, h.inF, bobj hV h.o7 (lts h.o7), bobj hV h.o8 (lts h.o8), bobj hV h.o10 (lts h.o10), turB h.tur hV⟩
theorem RepB.front {S : Nat -> Prop} {fb L l : Nat} {F : FN} {x xf xe y : Ix} {R : (Nat -> Bool) -> Prop} {w wr w1 w2 : World} (h : RepB S fb F L l x w wr xf xe) (ha : FindAt S w fb F L) (g : Got (Pr S w 4) fb F L l R wr w1 y) (hin : InN F.N y.mem)
  (h2 : w2 = (w1.setCell ⟨w.heap.size + 2, 0, none⟩ (.int .i64 (y.f : Int))).setCell ⟨w.heap.size + 2, 1, none⟩ (.slice y.A y.ws.length y.c)) : RepB S fb F L l x w w2 y xe /\ Turned (· = w.heap.size + 2) w1 w2 := by
 have hmb := ha.kept.lt;have hfb := lts ha.obj;have q7 := g.tur.obj h.o7 (by omega);have q8 := g.tur.obj h.o8 (by omega);have q10 := g.tur.obj h.o10 (by omega);obtain ⟨a1, a2⟩ := put_two (u' := .int .i64 (y.f : Int)) (v' := .slice y.A y.ws.length y.c) q8;rw [<- h2] at a1 a2;have hS2 : ∀ k, k = w.heap.size + 2 -> Pr S w 4 k := fun k hk => .inr (by omega);have hSm : ∀ k, k = F.mb -> Pr S w 4 k := fun k hk => by rw [hk]; exact .inl ha.sm
 refine ⟨⟨g.fin.go a2 (fun k hk _ => ⟨hS2 k hk, by omega, by omega⟩) (.inl ha.sm) (.inl ha.sf) (fun k hk => .inl hk) (fun k hk => Nat.lt_of_lt_of_le (g.fin.old k hk) a2.size), g.at'.turned (turned_mono a2 hS2), (h.atE.turned (turned_mono g.tur hSm)).turned (turned_mono a2 hS2), g.low, h.lowE, hin, a2.obj q7 (by omega), a1, a2.obj q10 (by omega), turS (turT h.tur g.tur) a2 (by omega)⟩, a2⟩
theorem RepB.ends {S : Nat -> Prop} {fb L l : Nat} {F : FN} {x xf xe y : Ix} {P : Nat -> Bool} {w wr w1 w2 w3 : World} (h : RepB S fb F L l x w wr xf xe) (ha : FindAt S w fb F L) (hb : Below wr.heap.size wr w2) (hm : MadeI (Pr S w 4) F.N l w1 w2 y P)
  (h3 : w3 = (w2.setCell ⟨w.heap.size + 3, 0, none⟩ (.int .i64 (y.f : Int))).setCell ⟨w.heap.size + 3, 1, none⟩ (.slice y.A y.ws.length y.c)) : RepB S fb F L l x w w3 xf y := by
 have hmb := ha.kept.lt;have hfb := lts ha.obj;have h' := h.below hb;obtain ⟨a1, a2⟩ := put_two (u' := .int .i64 (y.f : Int)) (v' := .slice y.A y.ws.length y.c) h'.o10;rw [<- h3] at a1 a2;have hS2 : ∀ k, k = w.heap.size + 3 -> Pr S w 4 k := fun k hk => .inr (by omega);exact ⟨h'.fin.go a2 (fun k hk _ => ⟨hS2 k hk, by omega, by omega⟩) (.inl ha.sm) (.inl ha.sf) (fun k hk => .inl hk) (fun k hk => Nat.lt_of_lt_of_le (h'.fin.old k hk) a2.size), h'.atF.turned (turned_mono a2 hS2), hm.at'.turned (turned_mono a2 hS2), h.lowF, hm.low, h.inF, a2.obj h'.o7 (by omega), a2.obj h'.o8 (by omega), a1, turS h'.tur a2 (by omega)⟩
structure RepM (S : Nat -> Prop) (fb : Nat) (F : FN) (L l : Nat) (x : Ix) (K : Rel) (hi : Int) (least : Nat) (w : World) (d : Nat) (wr : World) (xf xe : Ix) : Prop where
 bx : RepB S fb F L l x w wr xf xe
 fr : FrontR L K x.mem d xf.mem
 ew : FewR L K x.mem d xe.mem
 few : d = 0 \/ d < least
 hi : hi < 0 \/ d = 0 \/ (d : Int) <= hi
theorem least_ok {F : FN} {e : Nat} {K : Rel} {lo : Int} (hE : EmpR F.T F.b e K) : LeastR F.N K lo (leastOf lo e) := by
 unfold leastOf;cases h0 : e.testBit 0 with
 | true => exact ⟨.inl ⟨by simp, fun j hj => at_all hE h0 hj⟩⟩
 | false =>
  refine ⟨.inr ⟨by simp, fun j h1 h2 => ?_⟩⟩;cases hk : K j j with
  | false => rfl
  | true => exact absurd (at_ends hE h0 (Nat.le_of_lt h2) hk) (by omega)
structure SprB (S : Nat -> Prop) (fb : Nat) (F : FN) (L l : Nat) (w wc w2 : World) (xe y : Ix) : Prop where
 stp : Stp (Pr S w 2) fb F L w2 (w.heap.size + 2) (w.heap.size + 2) y
 far : ∀ k, y.sl.ownBlock = some k -> wc.heap.size <= k
 four : w.heap.size + 4 <= wc.heap.size
 atE : IxAt (fun k => Pr S w 4 k \/ wc.heap.size <= k) F.N w2 xe
 lowE : xe.low l
 low : y.low l
 o7 : w2.heap[w.heap.size + 1]? = some (.cells #[.int .i64 0, .slice none 0 0] 68 (0, 0))
 o10 : w2.heap[w.heap.size + 3]? = some (.cells #[.int .i64 (xe.f : Int), .slice xe.A xe.ws.length xe.c] 68 (0, 0))
 tur : Turned (· = F.mb) w w2
theorem RepB.sprd {S : Nat -> Prop} {fb L l : Nat} {F : FN} {x xf xe y : Ix} {R : (Nat -> Bool) -> Prop} {w wc w1 w2 : World} (h : RepB S fb F L l x w wc xf xe) (ha : FindAt S w fb F L) (g : Aft (Pr S w 4) fb F L l R wc w1 y)
  (h2 : w2 = (w1.setCell ⟨w.heap.size + 2, 0, none⟩ (.int .i64 (y.f : Int))).setCell ⟨w.heap.size + 2, 1, none⟩ (.slice y.A y.ws.length y.c)) : SprB S fb F L l w wc w2 xe y := by
 have hmb := ha.kept.lt;have hfb := lts ha.obj;have hl3 := lts h.o10;have q7 := g.tur.obj h.o7 (by omega);have q8 := g.tur.obj h.o8 (by omega);have q10 := g.tur.obj h.o10 (by omega);obtain ⟨a1, a2⟩ := put_two (u' := .int .i64 (y.f : Int)) (v' := .slice y.A y.ws.length y.c) q8;rw [<- h2] at a1 a2;obtain ⟨c0, c1, f0, f1, _⟩ := box_all a1;have hlt := World.ownsRow.lt g.own;have hsz := g.tur.size;have hsz2 := a2.size;refine ⟨⟨?_, ⟨c0, c1, f0, f1, own_base (b1 := wc.heap.size) (ownsRow_turned g.own a2 fun k hk => ?_) (by omega), g.ok, fun k hk => ?_⟩, by omega, nlr _, fun k hk => ?_, .inl ha.sm, .inl ha.sf, g.fits⟩, fun k hk => (hlt k hk).1, by omega, ?_, h.lowE, g.low, a2.obj q7 (by omega), a2.obj q10 (by omega), turS (turT h.tur g.tur) a2 (by omega)⟩
 ·refine g.fin.go a2 (fun k hk _ => ⟨.inl (.inr (by omega)), by omega, by omega⟩) (.inl (.inl ha.sm)) (.inl (.inl ha.sf)) (fun k hk => ?_) (fun k hk => ?_)
  ·rcases hk with hk | hk | hk
   ·exact .inl (.inl (hk.imp_right fun hk => by omega))
   ·exact .inl (.inl (.inr (by omega)))
   ·exact .inl (.inr hk)
  ·rcases hk with (hk | hk) | hk | hk
   ·have := ha.old k hk; omega
   ·omega
   ·omega
   ·have := (hlt k hk).2; omega
 ·have := (hlt k hk).1; omega
 ·have := (hlt k hk).1; omega
 ·rcases hk with hk | hk
  ·have := ha.old k hk; omega
  ·omega
 ·refine ((h.atE.fresh (T := fun k => Pr S w 4 k \/ wc.heap.size <= k) fun k hk => hk).turned (turned_mono g.tur fun k hk => ?_)).turned (turned_mono a2 fun k hk => .inl (.inr (by omega)));rw [hk];exact .inl (.inl ha.sm)
structure SprA (S : Nat -> Prop) (fb : Nat) (F : FN) (L l : Nat) (w w3 : World) (xe y : Ix) : Prop where
 fin : FindAt (Pr S w 2) w3 fb F L
 atE : IxAt (Pr S w 2) F.N w3 xe
 atY : IxAt (Pr S w 2) F.N w3 y
 lowE : xe.low l
 low : y.low l
 c0 : w3.cell? ⟨w.heap.size + 2, 0, none⟩ = some (.int .i64 (y.f : Int))
 c1 : w3.cell? ⟨w.heap.size + 2, 1, none⟩ = some (.slice y.A y.ws.length y.c)
 o7 : w3.heap[w.heap.size + 1]? = some (.cells #[.int .i64 0, .slice none 0 0] 68 (0, 0))
 o10 : w3.heap[w.heap.size + 3]? = some (.cells #[.int .i64 (xe.f : Int), .slice xe.A xe.ws.length xe.c] 68 (0, 0))
 tur : Turned (· = F.mb) w w3
theorem SprB.after {S : Nat -> Prop} {fb L l : Nat} {F : FN} {xe y y' : Ix} {K : Rel} {w wc w2 w3 : World} (h : SprB S fb F L l w wc w2 xe y) (ha : FindAt S w fb F L) (g : Spread (Pr S w 2) fb F L (w.heap.size + 2) (w.heap.size + 2) y K w2 w3 y') : SprA S fb F L l w w3 xe y' := by
 have hmb := ha.kept.lt;have hfb := lts ha.obj;have h4 := h.four;have ht : ∀ k, Tch (w.heap.size + 2) y k -> k = w.heap.size + 2 \/ wc.heap.size <= k := fun k hk => hk.imp_right (h.far k);have hw2 := h.tur.size;have hold : ∀ k, Pr S w 2 k -> k < w.heap.size + 2 := fun k hk => hk.elim (fun hk => by have := ha.old k hk; omega) fun hk => hk.2;refine ⟨g.stp.fin.weaken (.inl ha.sm) (.inl ha.sf) fun k hk => .inl hk, ?_, own_ix g.stp.own.row hold g.stp.own.ok g.stp.fits, h.lowE, ?_, g.stp.own.c0, g.stp.own.c1, g.tur.obj h.o7 (fun hk => ?_), g.tur.obj h.o10 (fun hk => ?_), h.tur.trans g.tur fun k hk h1 => ?_⟩
 ·refine (h.atE.turned (turned_mono g.tur fun k hk => ?_)).weaken fun k hk => .inl (hk.imp_right fun hk => by omega);rcases hk with hk | hk
  ·rw [hk]; exact .inl (.inl ha.sm)
  ·exact (ht k hk).imp_left fun hk => .inr (by omega)
 ·refine h.low.imp g.nil fun e => ?_;rw [g.fy];exact e
 ·rcases hk with hk | hk
  ·omega
  ·have := ht _ hk; omega
 ·rcases hk with hk | hk
  ·omega
  ·have := ht _ hk; omega
 ·rcases h1 with h1 | h1
  ·exact h1
  ·have := ht k h1; omega
theorem RepB.own {S : Nat -> Prop} {fb L l : Nat} {F : FN} {x xf xe y : Ix} {R : (Nat -> Bool) -> Prop} {w wc w1 w2 : World} (h : RepB S fb F L l x w wc xf xe) (ha : FindAt S w fb F L) (g : Aft (Pr S w 4) fb F L l R wc w1 y)
  (h2 : w2 = (w1.setCell ⟨w.heap.size + 2, 0, none⟩ (.int .i64 (y.f : Int))).setCell ⟨w.heap.size + 2, 1, none⟩ (.slice y.A y.ws.length y.c)) : OwnI w2 wc.heap.size (w.heap.size + 2) y /\ IxAt (Tch (w.heap.size + 2) y) F.N w2 xe /\ w2.heap[w.heap.size + 3]? = some (.cells #[.int .i64 (xe.f : Int), .slice xe.A xe.ws.length xe.c] 68 (0, 0)) /\ w.heap.size + 2 < w2.heap.size /\ y.f + y.ws.length < 100000000000 := by
 have hb := h.sprd ha g h2;have h4 := hb.four;have hsz := hb.stp.hB;have hmb := ha.kept.lt;have q8 := g.tur.obj h.o8 (by omega);obtain ⟨a1, a2⟩ := put_two (u' := .int .i64 (y.f : Int)) (v' := .slice y.A y.ws.length y.c) q8;rw [<- h2] at a1 a2;have hsm := ha.small;have hfit := g.fits;refine ⟨⟨hb.stp.own.c0, hb.stp.own.c1, hb.stp.own.f0, hb.stp.own.f1, ownsRow_turned g.own a2 fun k hk => ?_, hb.stp.own.ok, hb.stp.own.ne⟩, hb.atE.weaken fun k hk => ?_, hb.o10, lts a1, by omega⟩
 ·have := hb.far k hk; omega
 ·exact hk.elim (fun hk => .inl (.inr (by omega))) fun hk => .inr (hb.far k hk)
theorem RepB.drop {S : Nat -> Prop} {fb L l : Nat} {F : FN} {x xf xe y : Ix} {ws : List Nat} {R : (Nat -> Bool) -> Prop} {w wc w1 w2 w3 : World} (h : RepB S fb F L l x w wc xf xe) (ha : FindAt S w fb F L) (g : Aft (Pr S w 4) fb F L l R wc w1 y)
  (h2 : w2 = (w1.setCell ⟨w.heap.size + 2, 0, none⟩ (.int .i64 (y.f : Int))).setCell ⟨w.heap.size + 2, 1, none⟩ (.slice y.A y.ws.length y.c)) (hd : OwnI w3 wc.heap.size (w.heap.size + 2) ⟨y.f, ws, y.A, y.c⟩) (hl : ws.length = y.ws.length) (ht : Turned (fun k => y.sl.ownBlock = some k) w2 w3) (hin : InN F.N (memN y.f ws)) : RepB S fb F L l x w w3 ⟨y.f, ws, y.A, y.c⟩ xe := by
 have hb := h.sprd ha g h2;have h4 := hb.four;have hmb := ha.kept.lt;have hfb := lts ha.obj;have q8 := g.tur.obj h.o8 (by omega);obtain ⟨a1, a2⟩ := put_two (u' := .int .i64 (y.f : Int)) (v' := .slice y.A y.ws.length y.c) q8;rw [<- h2] at a1 a2;have hold := h.fin.old;have hsz2 := hb.stp.hB;have hwc : wc.heap.size <= w2.heap.size := Nat.le_trans g.tur.size a2.size;have hsz3 := ht.size
 have hf : FindAt (Pr S w 4) w2 fb F L := g.fin.go a2 (fun k hk _ => ⟨.inl (.inr (by omega)), by omega, by omega⟩) (.inl ha.sm) (.inl ha.sf) (fun k hk => .inl (.inl hk)) fun k hk => by
  have := hold k hk; omega
 have hf2 : FindAt (fun k => Pr S w 4 k \/ y.sl.ownBlock = some k) w2 fb F L := g.fin.go a2 (fun k hk _ => ⟨.inl (.inr (by omega)), by omega, by omega⟩) (.inl (.inl ha.sm)) (.inl (.inl ha.sf)) (fun k hk => .inl hk) fun k hk => Nat.lt_of_lt_of_le (g.fin.old k hk) a2.size;refine ⟨hf2.go ht (fun k hk _ => ⟨.inr hk, ?_, ?_⟩) (.inl ha.sm) (.inl ha.sf) (fun k hk => .inl (.inl hk)) (fun k hk => ?_), own_ix hd.row hold hd.ok ?_, ?_, ?_, hb.lowE, hin, ht.obj hb.o7 fun hk => ?_, ?_, ht.obj hb.o10 fun hk => ?_, ?_⟩
 ·have := hb.far k hk; omega
 ·have := hb.far k hk; omega
 ·have := hold k hk; omega
 ·show y.f + ws.length <= _;rw [hl]; exact g.fits
 ·exact (hb.atE.turned (turned_mono ht fun k hk => .inr (hb.far k hk))).weaken fun k hk => .inl hk
 ·exact g.low.imp (fun e => List.eq_nil_of_length_eq_zero (by rw [hl, e]; rfl)) id
 ·have := hb.far _ hk; omega
 ·show w3.heap[w.heap.size + 2]? = some (.cells #[.int .i64 (y.f : Int), .slice y.A ws.length y.c] 68 (0, 0));rw [hl];exact ht.obj a1 fun hk => by have := hb.far _ hk; omega
 ·have := hb.far _ hk; omega
 ·exact hb.tur.trans ht fun k hk h1 => by have := hb.far k h1; omega
structure RepN (S : Nat -> Prop) (fb : Nat) (F : FN) (L l : Nat) (x : Ix) (K : Rel) (lo hi : Int) (least : Nat) (w : World) (d0 : Nat) (x0 : Ix) (d : Nat) (wr : World) (xf xe : Ix) : Prop where
 bx : RepB S fb F L l x w wr xf xe
 mo : MoreR L F.N K lo hi x.mem d0 d xf.mem xe.mem
 st : (d = d0 /\ xf = x0) \/ least <= d0 + 1 \/ hi <= (d0 : Int)
theorem RepN.stop {S : Nat -> Prop} {fb L l least d0 d : Nat} {F : FN} {x x0 xf xe : Ix} {K : Rel} {lo hi : Int} {w wr : World} (h : RepN S fb F L l x K lo hi least w d0 x0 d wr xf xe) (hK : FitR F.N K) (hP : InN F.N x.mem) (hl : LeastR F.N K lo least) (h0 : 0 <= hi) (hx : hi <= (d : Int) \/ ∀ j, xf.mem j = false) : EndsR L (repB K lo hi) x.mem xe.mem := by
 refine h.mo.stop hK hP hl ?_ (by omega);rcases hx with hx | hx
 ·exact .inl hx
 ·rcases h.st with ⟨a, _⟩ | a | a
  ·exact .inr (.inr ⟨a, hx⟩)
  ·exact .inr (.inl ⟨a, hx⟩)
  ·have := h.mo.le;exact .inl (by omega)
theorem meas_hi {hi : Int} {r : Nat} (h : (r : Int) <= hi) : (hi + 1 - intOf (.int .i64 ((r : Int) + 1))).toNat < (hi + 1 - intOf (.int .i64 (r : Int))).toNat := by
 show (hi + 1 - ((r : Int) + 1)).toNat < (hi + 1 - (r : Int)).toNat;omega
theorem meas_down {a r : Nat} (h1 : r < a) : a - (intOf (.int .i64 ((r : Int) + 1))).toNat < a - (intOf (.int .i64 (r : Int))).toNat := by
 show a - ((r : Int) + 1).toNat < a - ((r : Int)).toNat;omega
structure RepH (S : Nat -> Prop) (fb : Nat) (F : FN) (L l : Nat) (x : Ix) (K : Rel) (q : Nat) (fid : FuncId) (bs : Array Value) (w : World) : Prop where
 ask : Ask S fb F L l w x
 aft : ∀ (V : World) (y : Ix), Turned (· = F.mb) w V -> Ask (Pr S w 4) fb F L l V y -> Calls Tryz.prog 71 #[funV fid bs, y.v] V (AftE (Pr S w 4) fb F L l (EndsR L K y.mem) V)
 emp : ∀ (V : World) (y : Ix), Ask (Pr S w 4) fb F L l V y -> Calls Tryz.prog 51 #[ptrV fb, .int .i64 (q : Int), y.v] V (RetI (Pr S w 4) F.N l (atB K y.mem) V)
 fit : FitR F.N K
 spr : ∀ (V : World) (y : Ix), Turned (· = F.mb) w V -> Stp (Pr S w 2) fb F L V (w.heap.size + 2) (w.heap.size + 2) y -> InN F.N y.mem -> Calls Tryz.prog 102 #[funV fid bs, ptrV (w.heap.size + 2)] V (SpreadE (Pr S w 2) fb F L (w.heap.size + 2) (w.heap.size + 2) y K V)
theorem RepB.askF {S : Nat -> Prop} {fb L l : Nat} {F : FN} {x xf xe : Ix} {w wr : World} (h : RepB S fb F L l x w wr xf xe) : Ask (Pr S w 4) fb F L l wr xf := ⟨h.fin, h.atF, h.inF, h.lowF⟩
set_option maxRecDepth 100000 in
set_option maxHeartbeats 1500000 in
theorem flow_rep {S : Nat -> Prop} {w : World} {fb L l q : Nat} {F : FN} {x : Ix} {K : Rel} {fid : FuncId} {bs : Array Value} (hH : RepH S fb F L l x K q fid bs w) {b1 b2 b3 b4 b5 : Nat} {d : ND} {least : Nat} (hl : LeastR F.N K d.x.lo least) (hb1 : BoxO S w b1 #[.int .i64 (least : Int)] 3) (hb2 : BoxO S w b2 d.bare 106) (hb3 : BoxO S w b3 #[funV fid bs] 131) (hb4 : BoxO S w b4 #[ptrV fb] 62) (hb5 : BoxO S w b5 #[.int .i64 (q : Int)] 3) :
  Calls Tryz.prog 101 #[x.v, ptrV b1, ptrV b2, ptrV b3, ptrV b4, ptrV b5] w (GotE S fb F L l (EndsR L (repB K d.x.lo d.x.hi) x.mem) w) := by
 have ha := hH.ask;have hsm := ha.fin.small;obtain ⟨m, hm⟩ : ∃ m, m = x.ws.length := ⟨_, rfl⟩;have hxv : x.v = .agg #[.int .i64 (x.f : Int), .slice x.A m x.c] := (by unfold Ix.v; rw [hm]);rw [hxv];obtain ⟨W, hW, hbW, hsW, o7, o8, o10⟩ := four_boxes w (.int .i64 (x.f : Int)) (.slice x.A m x.c) 68 (.int .i64 0) (.slice none 0 0) 68 (.int .i64 (x.f : Int)) (.slice x.A m x.c) 68 (.int .i64 0) (.slice none 0 0) 68;have hmb : F.mb < w.heap.size := ha.fin.kept.lt;have HH := lh hH;have HA := lh ha;have hbx : ∀ {b : Nat} {cs : Array Value} {t : TypeId}, BoxO S w b cs t -> ∀ V, Turned (· = F.mb) w V -> V.heap[b]? = some (.cells cs t (0, 0)) := fun hb V ht => ht.obj hb.1 fun e => hb.2 (by rw [e]; exact ha.fin.sm);obtain ⟨hi, hhi⟩ : ∃ hi, hi = d.x.hi := ⟨_, rfl⟩;obtain ⟨lo, hlo⟩ : ∃ lo, lo = d.x.lo := ⟨_, rfl⟩
 have HBX := lh fun (V : World) (ht : Turned (· = F.mb) w V) => (show V.cell? ⟨b1, 0, none⟩ = some (.int .i64 (least : Int)) /\ V.cell? ⟨b2, 6, none⟩ = some (.int .i64 hi) /\ V.cell? ⟨b3, 0, none⟩ = some (funV fid bs) /\ V.cell? ⟨b4, 0, none⟩ = some (ptrV fb) /\ V.cell? ⟨b5, 0, none⟩ = some (.int .i64 (q : Int)) from
  ⟨by rw [obc (hbx hb1 V ht)]; rfl, by rw [obc (hbx hb2 V ht), hhi]; rfl, by rw [obc (hbx hb3 V ht)]; rfl, by rw [obc (hbx hb4 V ht)]; rfl, by rw [obc (hbx hb5 V ht)]; rfl⟩)
 have HBL := lh (aI (lts hb1.1) (aI (lts hb2.1) (aI (lts hb3.1) (aI (lts hb4.1) (lts hb5.1)))));rw [<- hlo] at hl;rw [<- hhi, <- hlo];have HLS := lh hl
 have HM0 := lh (show RepM S fb F L l x K hi least w 0 W x ⟨0, [], none, 0⟩ from
  ⟨⟨ha.fin.pr 4 hbW (by omega), (ha.at'.pr 4).stays hbW, ⟨.nil _ _ _, nlr _, (fun m h => by cases h), Nat.zero_le _⟩, ha.low, .inl rfl, ha.inN, o7, by rw [<- hm]; exact o8, o10, Turned.of_below hbW⟩,
   FrontR.zero L K x.mem, by
    have e : (⟨0, [], none, 0⟩ : Ix).mem = noneB := funext fun j => mem_nil _ rfl j
    rw [e]; exact FewR.zero L K x.mem, .inl rfl, .inr (.inl rfl)⟩)
 have HSM := lh hsm;have HMB := lh hmb;clear hm hxv ha hmb hbW hsW hb1 hb2 hb3 hb4 hb5 hH hl hsm o7 o8 o10 hbx hhi hlo;go_enter Tryz.func101, Tryz.ntmps101;go_upto_region 3 with fail;rw [<- hW];clear hW;go_loopw [9] (fun rv wr => ∃ (d : Nat) (xf xe : Ix), rv = .int .i64 ((d + 1 : Nat) : Int) /\ Hid (RepM S fb F L l x K hi least w d wr xf xe)) (fun rv _ => least - (intOf rv).toNat)
 case atStart => exact ⟨0, x, ⟨0, [], none, 0⟩, rfl, HM0⟩
 case round =>
  obtain ⟨d, xf, xe, rfl, HY⟩ := hrel;obtain ⟨nf, hnf⟩ : ∃ n, n = xf.ws.length := ⟨_, rfl⟩;have hvf : xf.v = .agg #[.int .i64 (xf.f : Int), .slice xf.A nf xf.c] := (by unfold Ix.v; rw [hnf]);have h8 := HY.out.bx.o8;rw [<- hnf] at h8;obtain ⟨c80, c81, _, _, c8l⟩ := box_all h8;obtain ⟨k1, k2, k3, k4, k5⟩ := HBX.out wr HY.out.bx.tur;have HE := lh (empty_ix HY.out.bx.atF (by have := HSM.out; omega) HY.out.bx.fin.deb);rw [hvf] at HE;have HVF := lh (aI hnf (aI hvf h8));obtain ⟨r, hr⟩ : ∃ r, r = d + 1 := ⟨_, rfl⟩;rw [<- hr];have HR := lh hr;clear hnf hvf h8 hr;go_upto_region 3 with fail;go_cut [32] from 12 to 32 (fun t wx => ∃ bt : Bool, t = .bool bt /\ Below wr.heap.size wr wx /\ (bt = true -> r < least /\ (hi < 0 \/ (r : Int) <= hi) /\ ∃ j, xf.mem j = true) /\ (bt = false -> least <= r \/ (¬ hi < 0 /\ hi < (r : Int)) \/ ∀ j, xf.mem j = false))
  case first =>
   by_cases h1 : r < least
   ·have z1 : decide ((r : Int) < (least : Int)) = true := dqt (by omega);have z1n : decide (r < least) = true := dqt h1;by_cases h2 : hi < 0
    ·have z2 : decide (hi < 0) = true := dqt h2;have HC := lh (aI h1 h2);clear h1 h2;go_wp2_with fail;go_at_call 78;refine HE.out.mono ?_;rintro e w1 ⟨eb, rfl, het, hef, hb1⟩;have HE1 := lh (aI het (aI hef hb1));clear het hef hb1;cases eb
     ·go_wp2_with fail;go_meet
      case rel => exact ⟨true, rfl, HE1.out.2.2, fun _ => ⟨HC.out.1, .inl HC.out.2, HE1.out.2.1 (by trivial)⟩, fun h => by cases h⟩
     ·go_wp2_with fail;go_meet
      case rel => exact ⟨false, rfl, HE1.out.2.2, (fun h => by cases h), fun _ => .inr (.inr (HE1.out.1 (by trivial)))⟩
    ·have z2 : decide (hi < 0) = false := dqf h2;by_cases h3 : (r : Int) <= hi
     ·have z3 : decide ((r : Int) <= hi) = true := dqt h3;have HC := lh (aI h1 h3);clear h1 h2 h3;go_wp2_with fail;go_at_call 78;refine HE.out.mono ?_;rintro e w1 ⟨eb, rfl, het, hef, hb1⟩;have HE1 := lh (aI het (aI hef hb1));clear het hef hb1;cases eb
      ·go_wp2_with fail;go_meet
       case rel => exact ⟨true, rfl, HE1.out.2.2, fun _ => ⟨HC.out.1, .inr HC.out.2, HE1.out.2.1 (by trivial)⟩, fun h => by cases h⟩
      ·go_wp2_with fail;go_meet
       case rel => exact ⟨false, rfl, HE1.out.2.2, (fun h => by cases h), fun _ => .inr (.inr (HE1.out.1 (by trivial)))⟩
     ·have z3 : decide ((r : Int) <= hi) = false := dqf h3;have HC := lh (aI h2 h3);clear h1 h2 h3;go_wp2_with fail;go_meet
      case rel => exact ⟨false, rfl, Below.refl _ _, (fun h => by cases h), fun _ => .inr (.inl ⟨HC.out.1, by have := HC.out.2; omega⟩)⟩
   ·have z1 : decide ((r : Int) < (least : Int)) = false := dqf (by omega);have z1n : decide (r < least) = false := dqf h1;have HC := lh h1;clear h1;go_wp2_with fail;go_meet
    case rel => exact ⟨false, rfl, Below.refl _ _, (fun h => by cases h), fun _ => .inl (Nat.le_of_not_lt HC.out)⟩
  obtain ⟨bt, rfl, hbc, hbt, hbf⟩ := hcut;have HBC := lh (HY.out.bx.below hbc);have h8 := HBC.out.o8;rw [<- HVF.out.1] at h8;obtain ⟨e80, e81, eg80, eg81, e8l⟩ := box_all h8;obtain ⟨j1, j2, j3, j4, j5⟩ := HBX.out wc HBC.out.tur;have HCC := lh (aI hbt hbf);clear hbc hbt hbf c80 c81 c8l k1 k2 k3 k4 k5 h8;cases bt with
  | true =>
   have HT := lh (HCC.out.1 rfl)
   have hd : d <= 100000 := by
    obtain ⟨j, hj⟩ := HT.out.2.2;have h1 := (HY.out.fr.snd j hj).pos;have h2 := HY.out.bx.inF j hj;have h3 := HSM.out;omega
   have hrb : r < 1099511627776 := (by have := HR.out; omega);have HAF := lh (HH.out.aft wc xf HBC.out.tur HBC.out.askF);rw [HVF.out.2.1] at HAF;clear hd;go_wp2_with fail;go_at_call 71;refine HAF.out.mono ?_;rintro e w1 ⟨y, he, haf⟩;have hg := haf.got HBC.out.fin;obtain ⟨ny, hny⟩ : ∃ n, n = y.ws.length := ⟨_, rfl⟩;have hvy : y.v = .agg #[.int .i64 (y.f : Int), .slice y.A ny y.c] := (by unfold Ix.v; rw [hny]);rw [hvy] at he;subst he;have g8 := hg.tur.obj HBC.out.o8 (by have := HMB.out; omega);rw [<- HVF.out.1] at g8;obtain ⟨f80, f81, fg80, fg81, f8l⟩ := box_all g8;have HG := lh (aI hg (aI hny (aI hvy (hg.is.inN HH.out.fit HY.out.bx.inF))));clear haf hg hny hvy g8 e80 e81 eg80 eg81 e8l j1 j2 j3 j4 j5;go_upto_region 6 with fail;obtain ⟨w2, hw2⟩ : ∃ W, W = (w1.setCell ⟨w.heap.size + 1 + 1, 0, none⟩ (.int .i64 (y.f : Int))).setCell ⟨w.heap.size + 1 + 1, 1, none⟩ (.slice y.A ny y.c) := ⟨_, rfl⟩;rw [<- hw2];have HB2 := lh (RepB.front (w2 := w2) HBC.out HH.out.ask.fin HG.out.1 HG.out.2.2.2 (by rw [hw2, HG.out.2.1])).1;clear hw2 f80 f81 fg80 fg81 f8l;obtain ⟨ne, hne⟩ : ∃ n, n = xe.ws.length := ⟨_, rfl⟩;have hve : xe.v = .agg #[.int .i64 (xe.f : Int), .slice xe.A ne xe.c] := (by unfold Ix.v; rw [hne]);have HVE := lh (aI hne hve)
   have HS := lh fun (V : World) (hV : Below w2.heap.size w2 V) => (show V.cell? ⟨w.heap.size + 1 + 1 + 1, 0, none⟩ = some (.int .i64 (xe.f : Int)) /\ V.cell? ⟨w.heap.size + 1 + 1 + 1, 1, none⟩ = some (.slice xe.A ne xe.c) /\ V.cell? ⟨b4, 0, none⟩ = some (ptrV fb) /\ V.cell? ⟨b5, 0, none⟩ = some (.int .i64 (q : Int)) /\ V.cell? ⟨w.heap.size + 1 + 1, 0, none⟩ = some (.int .i64 (y.f : Int)) /\ V.cell? ⟨w.heap.size + 1 + 1, 1, none⟩ = some (.slice y.A ny y.c) by
    have h := HB2.out.below hV;have h8 := h.o8;have h10 := h.o10;rw [<- HG.out.2.1] at h8;rw [<- HVE.out.1] at h10;obtain ⟨_, _, _, h4, h5⟩ := HBX.out V h.tur
    exact ⟨(two_cells h10).1, (two_cells h10).2, h4, h5, (two_cells h8).1, (two_cells h8).2⟩)
   have HEM := lh fun (V : World) (hV : Below w2.heap.size w2 V) => HH.out.emp V y (HB2.out.below hV).askF;rw [HG.out.2.2.1] at HEM;have HJ := lh fun (V : World) (hV : Below w2.heap.size w2 V) (z : Ix) (hz : IxAt (Pr S w 4) F.N V z) (hl : z.low l) => join_ix (S := Pr S w 4) (l := l) (a := xe) (b := z) (w := V) (fun k hk => (HB2.out.below hV).fin.old k hk) (by have := HSM.out; omega) (HB2.out.below hV).atE hz HB2.out.lowE hl;rw [hve] at HJ;clear hne hve;refine wp_region_heads (fun wx => wx.cell? ⟨w.heap.size + 1 + 1 + 1, 0, none⟩ = some (.int .i64 (xe.f : Int)) /\ wx.cell? ⟨w.heap.size + 1 + 1 + 1, 1, none⟩ = some (.slice xe.A ne xe.c) /\ wx.cell? ⟨b4, 0, none⟩ = some (ptrV fb) /\ wx.cell? ⟨b5, 0, none⟩ = some (.int .i64 (q : Int)) /\ wx.cell? ⟨w.heap.size + 1 + 1, 0, none⟩ = some (.int .i64 (y.f : Int)) /\ wx.cell? ⟨w.heap.size + 1 + 1, 1, none⟩ = some (.slice y.A ny y.c)) [0, 1, 2, 3] [4, 5, 6] [6] (by kernel_rfl) (by kernel_rfl) (by kernel_rfl) (fun c a d v w h => hq_body (P := Tryz.prog) (fn := Tryz.f101) c a d v w h) (by kernel_rfl) (HS.out _ (bDr (Below.refl w2.heap.size w2))) ?_;refine heads_step (v := ?_) rfl (by rfl) (fun wx hSw => ?_) ?_;rotate_left
   ·obtain ⟨u0, u1, u2, u3, u4, u5⟩ := hSw;go_simp;try with_reducible rfl
   try simp only [Act.put, List.setIfInBounds_toArray]
   refine heads_step (v := ?_) rfl (by rfl) (fun wx hSw => ?_) ?_;rotate_left
   ·obtain ⟨u0, u1, u2, u3, u4, u5⟩ := hSw;go_simp;try with_reducible rfl
   try simp only [Act.put]
   refine heads_step (v := ?_) rfl (by rfl) (fun wx hSw => ?_) ?_;rotate_left
   ·obtain ⟨u0, u1, u2, u3, u4, u5⟩ := hSw;go_simp;try with_reducible rfl
   try simp only [Act.put]
   refine heads_step (v := ?_) rfl (by rfl) (fun wx hSw => ?_) ?_;rotate_left
   ·obtain ⟨u0, u1, u2, u3, u4, u5⟩ := hSw;go_simp;try with_reducible rfl
   try simp only [Act.put]
   refine heads_end ?_;refine tail_step rfl (fun K hK => ?_);go_simp;refine (HEM.out _ (bDr (Below.refl w2.heap.size w2))).mono ?_;rintro e w3 ⟨z, he, hs, hb3⟩;obtain ⟨nz, hnz⟩ : ∃ n, n = z.ws.length := ⟨_, rfl⟩;have hvz : z.v = .agg #[.int .i64 (z.f : Int), .slice z.A nz z.c] := (by unfold Ix.v; rw [hnz]);rw [hvz] at he;subst he;have HW3 := lh ((bDr (Below.refl w2.heap.size w2)).trans hb3);have HZ := lh hs;have hj := HJ.out w3 HW3.out z hs.at' hs.low;rw [hvz] at hj;have HJ2 := lh hj;refine hK _ _ ⟨fun _ => HS.out _ HW3.out, ?_⟩;clear hs hb3 hnz hvz hj hK K;try simp only [Act.put, List.setIfInBounds_toArray, List.set_cons_zero, List.set_cons_succ]
   refine tail_step rfl (fun K hK => ?_);go_simp;refine HJ2.out.mono ?_;rintro e w4 ⟨ye, he, hm4, hb4⟩;obtain ⟨nye, hnye⟩ : ∃ n, n = ye.ws.length := ⟨_, rfl⟩;have hvye : ye.v = .agg #[.int .i64 (ye.f : Int), .slice ye.A nye ye.c] := (by unfold Ix.v; rw [hnye]);rw [hvye] at he;subst he;have HW4 := lh (HW3.out.trans (hb4.mono HW3.out.size));have HYE := lh (aI hm4 hnye);have h10 := (HB2.out.below HW4.out).o10;rw [<- HVE.out.1] at h10;obtain ⟨t0, t1, tg0, tg1, tl⟩ := box_all h10;refine hK _ _ ⟨fun _ => HS.out _ HW4.out, ?_⟩;clear hm4 hb4 hnye hvye hK K h10;try simp only [Act.put, List.setIfInBounds_toArray, List.set_cons_zero, List.set_cons_succ]
   refine tail_step rfl (fun K hK => ?_);go_simp;refine hK _ _ ⟨fun h => by simp at h, ?_⟩;clear hK K;try simp only [Act.put, List.setIfInBounds_toArray, List.set_cons_zero, List.set_cons_succ]
   refine tail_end ?_;obtain ⟨w5, hw5⟩ : ∃ W, W = (w4.setCell ⟨w.heap.size + 1 + 1 + 1, 0, none⟩ (.int .i64 (ye.f : Int))).setCell ⟨w.heap.size + 1 + 1 + 1, 1, none⟩ (.slice ye.A nye ye.c) := ⟨_, rfl⟩;rw [<- hw5]
   have HM := lh (show RepM S fb F L l x K hi least w (d + 1) w5 y ye from
    ⟨RepB.ends (w3 := w5) HB2.out HH.out.ask.fin HW4.out HYE.out.1 (by rw [hw5, HYE.out.2]), HY.out.fr.step HG.out.1.is, by
     have e : ye.mem = orB xe.mem (atB K y.mem) := funext fun j => by rw [HYE.out.1.is, HZ.out.is]; rfl
     rw [e]
     exact HY.out.ew.step (HY.out.fr.step HG.out.1.is), .inr (by have := HT.out.1; have := HR.out; omega), HT.out.2.1.imp_right fun h => .inr (by have := HR.out; omega)⟩)
   clear hw5 t0 t1 tg0 tg1 tl;go_wp2_with fail;go_roundw
   case rel => exact ⟨d + 1, y, ye, by rw [HR.out]; rfl, HM⟩
   case measure =>
    have h1 := HT.out.1;exact meas_down h1
  | false =>
   have HX := lh (HCC.out.2 rfl);by_cases hn : hi < 0
   ·have zn : decide (hi < 0) = true := dqt hn;have HN := lh hn;have HAF := lh (HH.out.aft wc xf HBC.out.tur HBC.out.askF);rw [HVF.out.2.1] at HAF;clear hn;go_wp2_with fail;go_at_call 71;refine HAF.out.mono ?_;rintro e w1 ⟨y, he, haf⟩;have hg := haf.got HBC.out.fin;obtain ⟨ny, hny⟩ : ∃ n, n = y.ws.length := ⟨_, rfl⟩;have hvy : y.v = .agg #[.int .i64 (y.f : Int), .slice y.A ny y.c] := (by unfold Ix.v; rw [hny]);rw [hvy] at he;subst he;have g8 := hg.tur.obj HBC.out.o8 (by have := HMB.out; omega);rw [<- HVF.out.1] at g8;obtain ⟨f80, f81, fg80, fg81, f8l⟩ := box_all g8;have HG := lh (aI haf (aI hny (aI hvy (aI (hg.is.inN HH.out.fit HY.out.bx.inF) hg.is))));clear haf hg hny hvy g8 e80 e81 eg80 eg81 e8l j1 j2 j3 j4 j5;go_upto_region 9 with fail;obtain ⟨w2, hw2⟩ : ∃ W, W = (w1.setCell ⟨w.heap.size + 1 + 1, 0, none⟩ (.int .i64 (y.f : Int))).setCell ⟨w.heap.size + 1 + 1, 1, none⟩ (.slice y.A ny y.c) := ⟨_, rfl⟩;rw [<- hw2];have HSB := lh (RepB.sprd (w2 := w2) HBC.out HH.out.ask.fin HG.out.1 (by rw [hw2, HG.out.2.1]));have HSP := lh (HH.out.spr w2 y HSB.out.tur HSB.out.stp HG.out.2.2.2.1);obtain ⟨_, _, p3, _, _⟩ := HBX.out w2 HSB.out.tur;have hb3l := HBL.out.2.2.1;have h2l := HSB.out.tur.size;have hb3 : b3 < w2.heap.size := Nat.lt_of_lt_of_le hb3l h2l;clear hw2 f80 f81 fg80 fg81 f8l hb3l h2l;go_wp2_with fail;go_at_call 102;refine HSP.out.mono ?_;rintro e w3 ⟨rfl, ys, hs⟩;have HA3 := lh (HSB.out.after HH.out.ask.fin hs);obtain ⟨ns, hns⟩ : ∃ n, n = ys.ws.length := ⟨_, rfl⟩;obtain ⟨ne, hne⟩ : ∃ n, n = xe.ws.length := ⟨_, rfl⟩;have hvs : ys.v = .agg #[.int .i64 (ys.f : Int), .slice ys.A ns ys.c] := (by unfold Ix.v; rw [hns]);have hve : xe.v = .agg #[.int .i64 (xe.f : Int), .slice xe.A ne xe.c] := (by unfold Ix.v; rw [hne]);have hj := join_ix (S := Pr S w 2) (l := l) (a := xe) (b := ys) (w := w3) HA3.out.fin.old (by have := HSM.out; omega) HA3.out.atE HA3.out.atY HA3.out.lowE HA3.out.low;rw [hvs, hve] at hj;have HJ := lh hj;have h8 := HA3.out.c1;have h80 := HA3.out.c0;have h10 := HA3.out.o10;rw [<- hns] at h8;rw [<- hne] at h10;obtain ⟨t0, t1, _, _, tl⟩ := box_all h10;have h8l : w.heap.size + 1 + 1 < w3.heap.size := (by omega);have HS := lh hs.is;clear hj hvs hve hns hne h10 hs p3 hb3;go_wp2_with fail;go_at_call 49;refine HJ.out.mono ?_;rintro e w4 ⟨z, he, hm4, hb4⟩;obtain ⟨nz, hnz⟩ : ∃ n, n = z.ws.length := ⟨_, rfl⟩;have hvz : z.v = .agg #[.int .i64 (z.f : Int), .slice z.A nz z.c] := (by unfold Ix.v; rw [hnz]);rw [hvz] at he;subst he;have h7 := bobj hb4 HA3.out.o7 (lts HA3.out.o7);obtain ⟨r0, r1, rg0, rg1, rl⟩ := box_all h7
    have HEX := lh (show EndsR L (repB K lo hi) x.mem z.mem by
     have e : z.mem = orB xe.mem ys.mem := funext fun j => hm4.is j;rw [e];refine rep_spread HH.out.fit HA.out.inN HN.out HLS.out HY.out.few HY.out.fr HY.out.ew ?_ HG.out.2.2.2.2 HS.out;rcases HX.out with h | h | h
     ·exact .inl (by have := HR.out; omega)
     ·exact absurd HN.out (by have := h.1; omega)
     ·exact .inr h)
    have HP := lh (got_ret (b := w.heap.size + 1) (n0 := 2) (R := EndsR L (repB K lo hi) x.mem) HA.out.fin (turB HA3.out.tur hb4) (by omega) (by omega) (HA3.out.fin.below hb4) hm4.at' HEX.out hm4.low h7 hnz);clear h7 hm4 hb4 hnz hvz h8 h80 t0 t1 tl h8l;go_wp2_with fail;refine bodyPost_ret (v := .agg #[.int .i64 (z.f : Int), .slice z.A nz z.c]) (by simp [results, Tryz.results101, go_sem, r0, r1]) rfl HP.out
   ·have zn : decide (hi < 0) = false := dqf hn;have HN := lh hn;have HM2 := lh (show RepN S fb F L l x K lo hi least w d xf d wc xf xe from ⟨HBC.out, MoreR.start HLS.out HY.out.few (by rcases HY.out.hi with h | h | h <;> omega) HY.out.fr HY.out.ew, .inl ⟨rfl, rfl⟩⟩);have HRV := lh (show Value.int .i64 (r : Int) = .int .i64 ((d + 1 : Nat) : Int) by rw [HR.out]);have hwc := HBC.out.tur.size;clear hn e80 e81 eg80 eg81 e8l;go_wp2_with fail;go_loopw [9] (fun rv wr => ∃ (g : Nat) (yf ye : Ix), rv = .int .i64 ((g + 1 : Nat) : Int) /\ Hid (RepN S fb F L l x K lo hi least w d xf g wr yf ye)) (fun rv _ => (hi + 1 - intOf rv).toNat)
    case atStart => exact ⟨d, xf, xe, HRV.out, HM2⟩
    case round =>
     obtain ⟨g, yf, ye, rfl, HY2⟩ := hrel;obtain ⟨mf, hmf⟩ : ∃ n, n = yf.ws.length := ⟨_, rfl⟩;obtain ⟨me, hme⟩ : ∃ n, n = ye.ws.length := ⟨_, rfl⟩;have hvf : yf.v = .agg #[.int .i64 (yf.f : Int), .slice yf.A mf yf.c] := (by unfold Ix.v; rw [hmf]);have hve : ye.v = .agg #[.int .i64 (ye.f : Int), .slice ye.A me ye.c] := (by unfold Ix.v; rw [hme]);have h8 := HY2.out.bx.o8;rw [<- hmf] at h8;obtain ⟨c80, c81, _, _, c8l⟩ := box_all h8;obtain ⟨k1, k2, k3, k4, k5⟩ := HBX.out wr HY2.out.bx.tur;have HE := lh (empty_ix HY2.out.bx.atF (by have := HSM.out; omega) HY2.out.bx.fin.deb);rw [hvf] at HE;have HV2 := lh (aI hmf (aI hvf (aI hme hve)));obtain ⟨r2, hr2⟩ : ∃ r2, r2 = g + 1 := ⟨_, rfl⟩;rw [<- hr2];have HR2 := lh hr2;clear hmf hvf hme hve h8 hr2;by_cases h3 : (r2 : Int) <= hi
     ·have z3 : decide ((r2 : Int) <= hi) = true := dqt h3;have HC := lh h3;clear h3;go_wp2_with fail;go_at_call 78;refine HE.out.mono ?_;rintro e w1 ⟨eb, rfl, het, hef, hb1⟩;have HB1 := lh (HY2.out.bx.below hb1);have h8 := HB1.out.o8;rw [<- HV2.out.1] at h8;obtain ⟨e80, e81, eg80, eg81, e8l⟩ := box_all h8;obtain ⟨j1, j2, j3, j4, j5⟩ := HBX.out w1 HB1.out.tur;have HE1 := lh (aI het hef);clear het hef hb1 h8 c80 c81 c8l k1 k2 k3 k4 k5;cases eb
      ·have HJN := lh (HE1.out.2 rfl)
       have HLE := lh (show least <= d + 1 by
        rcases HY2.out.st with ⟨a, b⟩ | a | a
        ·rcases HX.out with h | h | h
         ·have := HR.out; omega
         ·have := HR.out; have := HR2.out; have := HC.out; omega
         ·obtain ⟨j, hj⟩ := HJN.out;rw [b, h j] at hj;cases hj
        ·exact a
        ·have := HY2.out.mo.le; have := HR2.out; have := HC.out; omega)
       have hrb : r2 < 1099511627776 := by
        obtain ⟨j, hj⟩ := HJN.out;obtain ⟨i, _, hi2⟩ := HY2.out.mo.fr j hj;have h1 := chain_le hi2;have h2 := HY2.out.bx.inF j hj;have h3 := HSM.out;have h4 := HR2.out;omega
       have HAF := lh (HH.out.aft w1 yf HB1.out.tur HB1.out.askF);rw [HV2.out.2.1] at HAF;go_wp2_with fail;go_at_call 71;refine HAF.out.mono ?_;rintro e w4 ⟨y, he, haf⟩;have hg := haf.got HB1.out.fin;obtain ⟨ny, hny⟩ : ∃ n, n = y.ws.length := ⟨_, rfl⟩;have hvy : y.v = .agg #[.int .i64 (y.f : Int), .slice y.A ny y.c] := (by unfold Ix.v; rw [hny]);rw [hvy] at he;subst he;have g8 := hg.tur.obj HB1.out.o8 (by have := HMB.out; omega);rw [<- HV2.out.1] at g8;obtain ⟨f80, f81, fg80, fg81, f8l⟩ := box_all g8;have HG := lh (aI haf (aI hny (aI hvy (aI (hg.is.inN HH.out.fit HY2.out.bx.inF) hg.is))));clear haf hg hny hvy g8 e80 e81 eg80 eg81 e8l j1 j2 j3 j4 j5;go_upto_region 14 with fail;obtain ⟨w2, hw2⟩ : ∃ W, W = (w4.setCell ⟨w.heap.size + 1 + 1, 0, none⟩ (.int .i64 (y.f : Int))).setCell ⟨w.heap.size + 1 + 1, 1, none⟩ (.slice y.A ny y.c) := ⟨_, rfl⟩;rw [<- hw2];have hw2' : w2 = (w4.setCell ⟨w.heap.size + 2, 0, none⟩ (.int .i64 (y.f : Int))).setCell ⟨w.heap.size + 2, 1, none⟩ (.slice y.A y.ws.length y.c) := (by rw [hw2, HG.out.2.1]);have HW2 := lh hw2';have HO := lh (RepB.own (w2 := w2) HB1.out HH.out.ask.fin HG.out.1 hw2');have hd := drops_is (N := F.N) HO.out.1 HO.out.2.1 (by have := HSM.out; omega) HO.out.2.2.2.2;rw [HV2.out.2.2.2] at hd;have HD := lh hd;have h10 := HO.out.2.2.1;rw [<- HV2.out.2.2.1] at h10;obtain ⟨t0, t1, _, _, tl⟩ := box_all h10;clear hw2 hw2' hd h10 f80 f81 fg80 fg81 f8l;go_wp2_with fail;go_at_call 103;refine HD.out.mono ?_;rintro e w3 ⟨rfl, ws, ho, hm, hlen, ht⟩;have HB3 := lh (RepB.drop (w2 := w2) (w3 := w3) HB1.out HH.out.ask.fin HG.out.1 HW2.out ho hlen ht (fun j hj => HG.out.2.2.2.1 j (by rw [hm j] at hj; exact (Bool.and_eq_true_iff.1 hj).1)));have HDM := lh hm;obtain ⟨yd, hyd⟩ : ∃ yd : Ix, yd = ⟨y.f, ws, y.A, y.c⟩ := ⟨_, rfl⟩;have hdm : yd.mem = fun j => y.mem j && !ye.mem j := funext fun j => by rw [hyd]; exact hm j
       have HDD := lh hdm;rw [<- hyd] at HB3;obtain ⟨nd, hnd⟩ : ∃ n, n = yd.ws.length := ⟨_, rfl⟩;have hvd : yd.v = .agg #[.int .i64 (yd.f : Int), .slice yd.A nd yd.c] := (by unfold Ix.v; rw [hnd]);have hj := join_ix (S := Pr S w 4) (l := l) (a := ye) (b := yd) (w := w3) HB3.out.fin.old (by have := HSM.out; omega) HB3.out.atE HB3.out.atF HB3.out.lowE HB3.out.lowF;rw [hvd, HV2.out.2.2.2] at hj;have HJ := lh hj;have h8 := HB3.out.o8;have h10 := HB3.out.o10;rw [<- hnd] at h8;rw [<- HV2.out.2.2.1] at h10;obtain ⟨s0, s1, _, _, sl⟩ := box_all h8;obtain ⟨t0, t1, _, _, tl⟩ := box_all h10;clear ho hm hlen ht hyd hdm hnd hvd hj h8 h10;go_wp2_with fail;go_at_call 49;refine HJ.out.mono ?_;rintro e w5 ⟨z, he, hm4, hb4⟩;obtain ⟨nz, hnz⟩ : ∃ n, n = z.ws.length := ⟨_, rfl⟩;have hvz : z.v = .agg #[.int .i64 (z.f : Int), .slice z.A nz z.c] := (by unfold Ix.v; rw [hnz]);rw [hvz] at he;subst he;have HB5 := lh (HB3.out.below hb4);have h10 := HB5.out.o10;rw [<- HV2.out.2.2.1] at h10;have HMZ := lh (aI hm4 (aI hb4 hnz));clear hm4 hb4 hnz hvz s0 s1 sl t0 t1 tl;obtain ⟨t0, t1, tg0, tg1, tl⟩ := box_all h10;clear h10;go_upto_region 12 with fail;obtain ⟨w6, hw6⟩ : ∃ W, W = (w5.setCell ⟨w.heap.size + 1 + 1 + 1, 0, none⟩ (.int .i64 (z.f : Int))).setCell ⟨w.heap.size + 1 + 1 + 1, 1, none⟩ (.slice z.A nz z.c) := ⟨_, rfl⟩;rw [<- hw6]
       have HM := lh (show RepN S fb F L l x K lo hi least w d xf (g + 1) w6 yd z from
        ⟨RepB.ends (w3 := w6) HB3.out HH.out.ask.fin HMZ.out.2.1 HMZ.out.1 (by rw [hw6, HMZ.out.2.2]), by
         have e : z.mem = orB ye.mem (fun j => y.mem j && !ye.mem j) := funext fun j => by rw [HMZ.out.1.is, HDD.out]; rfl
         rw [e, HDD.out]
         exact HY2.out.mo.step HH.out.fit HA.out.inN HLS.out HY.out.few HLE.out (by have := HR2.out; have := HC.out; omega) HG.out.2.2.2.2, .inr (.inl HLE.out)⟩)
       clear hw6 t0 t1 tg0 tg1 tl;go_wp2_with fail;go_roundw
       case rel => exact ⟨g + 1, yd, z, by rw [HR2.out]; rfl, HM⟩
       case measure => exact meas_hi HC.out
      ·have h10 := HB1.out.o10;rw [<- HV2.out.2.2.1] at h10;obtain ⟨t0, t1, _, _, tl⟩ := box_all h10;obtain ⟨r0, r1, rg0, rg1, rl⟩ := box_all HB1.out.o7;have HP := lh (got_ret (b := w.heap.size + 1) (n0 := 4) (R := EndsR L (repB K lo hi) x.mem) HA.out.fin HB1.out.tur (by omega) (by omega) HB1.out.fin HB1.out.atE (HY2.out.stop HH.out.fit HA.out.inN HLS.out HN.out (.inr (HE1.out.1 rfl))) HB1.out.lowE HB1.out.o7 HV2.out.2.2.1);clear h10;go_wp2_with fail;refine bodyPost_ret (v := .agg #[.int .i64 (ye.f : Int), .slice ye.A me ye.c]) (by simp [results, Tryz.results101, go_sem, r0, r1]) rfl HP.out
     ·have z3 : decide ((r2 : Int) <= hi) = false := dqf h3;have HC := lh h3;have h10 := HY2.out.bx.o10;rw [<- HV2.out.2.2.1] at h10;obtain ⟨t0, t1, _, _, tl⟩ := box_all h10;obtain ⟨r0, r1, rg0, rg1, rl⟩ := box_all HY2.out.bx.o7;have HP := lh (got_ret (b := w.heap.size + 1) (n0 := 4) (R := EndsR L (repB K lo hi) x.mem) HA.out.fin HY2.out.bx.tur (by omega) (by omega) HY2.out.bx.fin HY2.out.bx.atE (HY2.out.stop HH.out.fit HA.out.inN HLS.out HN.out (.inl (by have := HR2.out; have := HC.out; omega))) HY2.out.bx.lowE HY2.out.bx.o7 HV2.out.2.2.1);clear h10 h3;go_wp2_with fail;refine bodyPost_ret (v := .agg #[.int .i64 (ye.f : Int), .slice ye.A me ye.c]) (by simp [results, Tryz.results101, go_sem, r0, r1]) rfl HP.out
open Go.RowKit Go.Deep Go.Sort
set_option maxRecDepth 100000 in
theorem runF_row : RunF 95 := fun args W => by simp [go_sem]
set_option maxRecDepth 100000 in
theorem runF_alt : RunF 96 := fun args W => by simp [go_sem]
set_option maxRecDepth 100000 in
theorem runF_grp : RunF 74 := fun args W => by simp [go_sem]
set_option maxRecDepth 100000 in
theorem runF_spr : RunF 99 := fun args W => by simp [go_sem]
set_option maxRecDepth 100000 in
theorem runF_rep : RunF 101 := fun args W => by simp [go_sem]
set_option maxRecDepth 100000 in
theorem runF_oth : RunF 76 := fun args W => by simp [go_sem]
theorem spr_rep (F : FN) : ∀ t : PN, sprT t = true -> ∃ (K' : Rel) (lo' hi' : Int), FitR F.N K' /\ hi' < 0 /\ F.rel t = repB K' lo' hi' /\ ∀ j, j <= F.N -> repB K' lo' hi' j j = true
 | .mk k S lo hi num ks, h => by
  unfold sprT at h;by_cases h5 : k = 5
  ·rw [if_pos h5] at h;cases ks with
   | nil => cases h
   | cons t ts =>
    obtain ⟨K', a, b, h1, h2, h3, h4⟩ := spr_rep F t h;refine ⟨K', a, b, h1, h2, ?_, h4⟩;rw [<- h3];show semT F.T F.b _ = semT F.T F.b t;rw [semT, semL, h5];rfl
  ·rw [if_neg h5] at h;simp only [Bool.and_eq_true, decide_eq_true_eq] at h;obtain ⟨⟨h4, hh⟩, h0⟩ := h;have hE := emp_T F.T F.b (.mk k S lo hi num ks);rw [emp_cnt] at hE
   have hr : F.rel (.mk k S lo hi num ks) = repB (headR (semL F.T F.b ks)) lo hi := by
    show semT F.T F.b _ = _;rw [semT, h4];rfl
   refine ⟨headR (semL F.T F.b ks), lo, hi, ?_, hh, hr, fun j hj => ?_⟩
   ·rw [<- F.lenT];exact FitR.head (fit_L F.T F.b ks)
   ·rw [<- hr];exact at_all hE h0 hj
theorem flow_all {fb : Nat} {F : FN} (k : Nat) : FlowC fb F k := by
 induction k using Nat.strongRecOn with
 | _ k ih =>
  intro S w L l x d ha hd;have hLC : ∀ q, q < k -> LongC fb F q := fun q hq => long_is (ih q hq);have hFB : ∀ q, q < k -> FromB fb F q := fun q hq k' d' hk' _ _ => from_is (ih k' (by omega));have hf := (ha.fin.mem k d hd).flow;generalize hfn : d.fn = v at hf;cases hf with
  | one hk hb hv =>
   refine ⟨_, _, rfl, runF_one, flow_one ha hd hk hb hv fun k' d' hk' hd' hne => ?_⟩;by_cases e : k' = k
   ·rw [e] at hd';injection hd.symm.trans hd' with e2;rw [<- e2] at hne;exact absurd hk hne
   ·exact from_is (ih k' (by omega))
  | row hk hb1 hb2 => exact ⟨_, _, rfl, runF_row, flow_row ha hd hk hb1 hb2 hLC⟩
  | alt hk hb1 hb2 => exact ⟨_, _, rfl, runF_alt, flow_alt ha hd hk hb1 hb2 hLC⟩
  | grp hk hb1 hb2 => exact ⟨_, _, rfl, runF_grp, flow_grp ha hd hk hb1 hb2 hLC⟩
  | spr hk hh hq hd' hs hb1 hb2 =>
   rename_i q d';obtain ⟨q2, d2, hq2, hqk, hd2, hrel, _⟩ := ha.fin.kid0 hd (.inl hk);injection hq.symm.trans hq2 with e;subst e;injection hd'.symm.trans hd2 with e;subst e;obtain ⟨K', a, b, h1, h2, h3, h4⟩ := spr_rep F d'.t hs;refine ⟨_, _, rfl, runF_spr, flow_spr ha hd' (fun i j hi hij => ?_) hb1 hb2 (hLC q hqk)⟩;have hR : F.rel d.t = repB (F.rel d'.t) d.x.lo d.x.hi := (by rw [ha.fin.rel hd, hk, <- hrel]; rfl);rw [hR, h3];exact rep_rep h1 h2 h4 hh hi hij
  | rep hk hq hd' hb1 hb2 hb3 hv hb4 hb5 =>
   rename_i q d' sv;obtain ⟨q2, d2, hq2, hqk, hd2, hrel, _⟩ := ha.fin.kid0 hd (.inl hk);injection hq.symm.trans hq2 with e;subst e;injection hd'.symm.trans hd2 with e;subst e;have hR : F.rel d.t = repB (F.rel d'.t) d.x.lo d.x.hi := (by rw [ha.fin.rel hd, hk, <- hrel]; rfl);obtain ⟨fid, bs, hsv, _⟩ := stepv_form hv;subst hsv;rw [hR];refine ⟨_, _, rfl, runF_rep, flow_rep (K := F.rel d'.t) (q := q) (fid := fid) (bs := bs) ⟨ha, fun V y ht hy => after_is hy ?_ hd' (hFB q hqk), fun V y hy => empties_is hy hd', F.fit d'.t, fun V y ht hs hin => spread_is hs ?_ hd' (hFB q hqk) hin⟩ (least_ok (ha.fin.emp hd')) hb1 hb2 hb3 hb4 hb5⟩
   ·have h1 : StepV (Pr S w 4) w fb F.nds q (funV fid bs) := hv.fresh fun k hk => hk.imp_right fun h => h.1;exact h1.turned ht fun k hk => by rw [hk]; exact .inl ha.fin.sm
   ·have h1 : StepV (fun k => Pr S w 2 k \/ Tch (w.heap.size + 2) y k) w fb F.nds q (funV fid bs) := hv.fresh fun k hk => by
     rcases hk with hk | hk
     ·exact hk.imp_right fun h => h.1
     ·have := hs.tch hk;exact .inr (by omega)
    exact h1.turned ht fun k hk => by rw [hk]; exact .inl (.inl ha.fin.sm)
  | oth h1 h2 h3 h4 h5 => exact ⟨_, _, rfl, runF_oth, flow_none ha hd h1 h2 h3 h4 h5⟩
theorem long_all {fb : Nat} {F : FN} (k : Nat) : LongC fb F k := long_is (flow_all k)
theorem from_all {fb : Nat} {F : FN} (k : Nat) : FromC fb F k := from_is (flow_all k)
open Go.RowKit Go.Deep Go.Sort
def MatE (S : Nat -> Prop) (fb : Nat) (F : FN) (L : Nat) (P : Bool -> Prop) (w : World) (e : Ending) (w' : World) : Prop := ∃ b, e = .returned (.bool b) /\ P b /\ FindAt S w' fb F L /\ Turned (· = F.mb) w w'
set_option maxRecDepth 100000 in
set_option maxHeartbeats 1000000 in
theorem matches_is {S : Nat -> Prop} {w : World} {fb L : Nat} {F : FN} (ha : FindAt S w fb F L) {k : Nat} {d : ND} (hd : F.nds[k]? = some d) {i j : Nat} (hi : i <= F.N) (hj : j <= L) : Calls Tryz.prog 33 #[ptrV fb, .int .i64 (k : Int), .int .i64 (i : Int), .int .i64 (j : Int)] w (MatE S fb F L (fun b => b = F.rel d.t i j) w) := by
 have HI := lh (aI ha.small (aI ha.lim (aI hi hj)));have HO := lh (only_is i F.N hi (by have := ha.small; omega) w);have HE := lh fun (V : World) (x : Ix) (h : Ask S fb F L i V x) => ends_is h hd (long_all k);have HA := lh ha;clear ha hi hj hd;go_enter Tryz.func33, Tryz.ntmps33;go_wp2_with fail;go_at_call 30;refine HO.out.mono ?_;rintro e w1 ⟨x, he, hm, hb⟩;obtain ⟨nx, hnx⟩ : ∃ n, n = x.ws.length := ⟨_, rfl⟩;have hvx : x.v = .agg #[.int .i64 (x.f : Int), .slice x.A nx x.c] := (by unfold Ix.v; rw [hnx]);rw [hvx] at he;subst he;have hxm : x.mem = onlyB i := funext fun q => by rw [hm.is q]; rfl
 have he1 := HE.out w1 x ⟨HA.out.below hb, hm.at'.weaken fun q hq => HA.out.old q hq, fun q hq => by rw [hxm, onlyB_iff] at hq; rw [hq]; exact HI.out.2.2.1, hm.low⟩;rw [hvx, hxm] at he1;have HE1 := lh he1;have HB := lh hb;clear hm hb hnx hvx hxm he1;go_wp2_with fail;go_at_call 29;refine HE1.out.mono ?_;rintro e w2 ⟨y, he, hg⟩;obtain ⟨ny, hny⟩ : ∃ n, n = y.ws.length := ⟨_, rfl⟩;have hvy : y.v = .agg #[.int .i64 (y.f : Int), .slice y.A ny y.c] := (by unfold Ix.v; rw [hny]);rw [hvy] at he;subst he;have hh := has_ix hg.at' (by have := HI.out.1; omega) j (by have := HI.out.1; have := HI.out.2.1; have := HI.out.2.2.2; omega);rw [hvy] at hh;have HH := lh hh;have HG := lh hg;clear hg hny hvy hh;go_wp2_with fail;go_at_call 57;refine HH.out.mono ?_;rintro e w3 ⟨rfl, hb3⟩
 have HP := lh (show MatE S fb F L (fun b => b = F.rel d.t i j) w (.returned (.bool (y.mem j))) w3 from
  ⟨_, rfl, Bool.eq_iff_iff.2 (HG.out.is.one HI.out.2.2.2), HG.out.fin.below hb3, turB ((Turned.of_below (S := (· = F.mb)) HB.out).trans HG.out.tur fun _ _ h => h) hb3⟩)
 clear hb3;go_wp2_with fail;refine bodyPost_ret (v := .bool (y.mem j)) (by simp [results, Tryz.results33, go_sem]) rfl HP.out
set_option maxRecDepth 100000 in
set_option maxHeartbeats 1000000 in
theorem begun_is {S : Nat -> Prop} {w : World} {fb : Nat} {F : FN} (ha : FindAt S w fb F F.N) {k : Nat} {d : ND} (hd : F.nds[k]? = some d) {a b : Nat} (hab : a < b) (hb : b <= F.N + 1) : Calls Tryz.prog 47 #[ptrV fb, .int .i64 (k : Int), .int .i64 (a : Int), .int .i64 (b : Int)] w (MatE S fb F F.N (fun r => r = true ↔ ∃ i j, a <= i /\ i < b /\ F.rel d.t i j = true) w) := by
 have HI := lh (aI ha.small (aI hab hb));have HO := lh (between_is a b F.N hab hb (by have := ha.small; omega) w);have HE := lh fun (V : World) (x : Ix) (h : Ask S fb F F.N a V x) => ends_is h hd (long_all k);have HA := lh ha;clear ha hab hb hd;go_enter Tryz.func47, Tryz.ntmps47;go_wp2_with fail;go_at_call 77;refine HO.out.mono ?_;rintro e w1 ⟨x, he, hm, hb⟩;obtain ⟨nx, hnx⟩ : ∃ n, n = x.ws.length := ⟨_, rfl⟩;have hvx : x.v = .agg #[.int .i64 (x.f : Int), .slice x.A nx x.c] := (by unfold Ix.v; rw [hnx]);rw [hvx] at he;subst he
 have he1 := HE.out w1 x ⟨HA.out.below hb, hm.at'.weaken fun q hq => HA.out.old q hq, fun q hq => by
  rw [hm.is q, Bool.and_eq_true, decide_eq_true_eq, decide_eq_true_eq] at hq;have := HI.out.2.2
  omega, hm.low⟩
 rw [hvx] at he1;have HE1 := lh he1;have HB := lh (aI hb hm);clear hm hb hnx hvx he1;go_wp2_with fail;go_at_call 29;refine HE1.out.mono ?_;rintro e w2 ⟨y, he, hg⟩;obtain ⟨ny, hny⟩ : ∃ n, n = y.ws.length := ⟨_, rfl⟩;have hvy : y.v = .agg #[.int .i64 (y.f : Int), .slice y.A ny y.c] := (by unfold Ix.v; rw [hny]);rw [hvy] at he;subst he;have hh := empty_ix hg.at' (by have := HI.out.1; omega) hg.fin.deb;rw [hvy] at hh;have HH := lh hh;have HG := lh hg;clear hg hny hvy hh;go_wp2_with fail;go_at_call 78;refine HH.out.mono ?_;rintro e w3 ⟨r, rfl, h1, h2, hb3⟩
 have HP := lh (show MatE S fb F F.N (fun r => r = true ↔ ∃ i j, a <= i /\ i < b /\ F.rel d.t i j = true) w (.returned (.bool !r)) w3 from
  ⟨_, rfl, (by
   show (!r) = true ↔ ∃ i j, a <= i /\ i < b /\ F.rel d.t i j = true;rw [Bool.not_eq_true'];constructor
   ·intro hr;obtain ⟨j, hj⟩ := h2 hr;obtain ⟨i, hi, hr⟩ := HG.out.is.snd j hj;rw [HB.out.2.is i, Bool.and_eq_true, decide_eq_true_eq, decide_eq_true_eq] at hi;exact ⟨i, j, hi.1, hi.2, hr⟩
   ·rintro ⟨i, j, h3, h4, h5⟩;cases hr : r with
    | false => rfl
    | true =>
     have hj := ((F.fit d.t) i j h5).2 (by have := HI.out.2.2; omega);have := HG.out.is.cpl i j (by rw [HB.out.2.is i, dqt h3, dqt h4]; rfl) hj h5;rw [h1 hr j] at this
     cases this), HG.out.fin.below hb3, turB ((Turned.of_below (S := (· = F.mb)) HB.out.1).trans HG.out.tur fun _ _ h => h) hb3⟩)
 clear h1 h2 hb3;go_wp2_with fail;refine bodyPost_ret (v := .bool !r) (by simp [results, Tryz.results47, go_sem]) rfl HP.out
open Go.RowKit Go.Deep Go.Sort
def Bg (F : FN) (t : PN) (i : Nat) : Prop := ∃ j, F.rel t i j = true
structure LbM (S : Nat -> Prop) (fb : Nat) (F : FN) (t : PN) (a b : Nat) (w : World) (lo hi : Nat) (wr : World) : Prop where
 fin : FindAt S wr fb F F.N
 tur : Turned (· = F.mb) w wr
 lt : lo < hi
 le : hi <= F.N + 1
 no : ∀ i, a <= i -> i < lo -> ¬ Bg F t i
 yes : ∃ i, lo <= i /\ i < hi /\ Bg F t i
 al : a <= lo
 hb : hi <= b
theorem LbM.left {S : Nat -> Prop} {fb a b lo hi m : Nat} {F : FN} {t : PN} {w wr w' : World} (h : LbM S fb F t a b w lo hi wr) (h1 : lo < m) (h2 : m < hi) (hf : FindAt S w' fb F F.N) (ht : Turned (· = F.mb) wr w') (hy : ∃ i j, lo <= i /\ i < m /\ F.rel t i j = true) : LbM S fb F t a b w lo m w' := by
 obtain ⟨i, j, y1, y2, y3⟩ := hy;have := h.le;have := h.hb;exact ⟨hf, turT h.tur ht, h1, by omega, h.no, ⟨i, y1, y2, j, y3⟩, h.al, by omega⟩
theorem LbM.right {S : Nat -> Prop} {fb a b lo hi m : Nat} {F : FN} {t : PN} {w wr w' : World} (h : LbM S fb F t a b w lo hi wr) (h1 : lo < m) (h2 : m < hi) (hf : FindAt S w' fb F F.N) (ht : Turned (· = F.mb) wr w') (hy : ¬ ∃ i j, lo <= i /\ i < m /\ F.rel t i j = true) : LbM S fb F t a b w m hi w' := by
 obtain ⟨i, y1, y2, y3⟩ := h.yes;have hal := h.al;have hn : ∀ i, lo <= i -> i < m -> ¬ Bg F t i := fun i a b ⟨j, hj⟩ => hy ⟨i, j, a, b, hj⟩;refine ⟨hf, turT h.tur ht, h2, h.le, fun i i1 i2 => ?_, ⟨i, ?_, y2, y3⟩, by omega, h.hb⟩
 ·by_cases e : i < lo
  ·exact h.no i i1 e
  ·exact hn i (by omega) i2
 ·exact Decidable.byContradiction fun e => hn i y1 (by omega) y3
theorem lb_meas {lo hi : Nat} {lo' hi' : Nat} (h1 : lo <= lo') (h2 : hi' <= hi) (h3 : lo < lo' \/ hi' < hi) (h4 : lo < hi) (h5 : lo' < hi') : (intOf (.int .i64 (hi' : Int)) - intOf (.int .i64 (lo' : Int))).toNat < (intOf (.int .i64 (hi : Int)) - intOf (.int .i64 (lo : Int))).toNat := by
 show ((hi' : Int) - (lo' : Int)).toNat < ((hi : Int) - (lo : Int)).toNat;omega
def LbE (S : Nat -> Prop) (fb : Nat) (F : FN) (t : PN) (a b : Nat) (w : World) (e : Ending) (w' : World) : Prop := ∃ i : Nat, e = .returned (.int .i64 (i : Int)) /\ a <= i /\ i < b /\ Bg F t i /\ (∀ k, a <= k -> k < i -> ¬ Bg F t k) /\ FindAt S w' fb F F.N /\ Turned (· = F.mb) w w'
set_option maxRecDepth 100000 in
set_option maxHeartbeats 1000000 in
theorem least_begun {S : Nat -> Prop} {w : World} {fb : Nat} {F : FN} (ha : FindAt S w fb F F.N) {k : Nat} {d : ND} (hd : F.nds[k]? = some d) {a b : Nat} (hab : a < b) (hb : b <= F.N + 1) (hy : ∃ i, a <= i /\ i < b /\ Bg F d.t i) : Calls Tryz.prog 48 #[ptrV fb, .int .i64 (k : Int), .int .i64 (a : Int), .int .i64 (b : Int)] w (LbE S fb F d.t a b w) := by
 have HM0 := lh (show LbM S fb F d.t a b w a b w from ⟨ha, Turned.refl _ _, hab, hb, fun i h1 h2 => absurd h1 (by omega), hy, nlr _, nlr _⟩);have HB := lh fun (V : World) (lo hi : Nat) (hf : FindAt S V fb F F.N) (h1 : lo < hi) (h2 : hi <= F.N + 1) => begun_is hf hd h1 h2;have HI := lh ha.small;clear ha hd hab hb hy;go_enter Tryz.func48, Tryz.ntmps48;go_wp2_with fail;go_loopw [2, 3, 9] (fun fv tv _ wr => ∃ (lo hi : Nat), fv = .int .i64 (lo : Int) /\ tv = .int .i64 (hi : Int) /\ Hid (LbM S fb F d.t a b w lo hi wr)) (fun fv tv _ _ => (intOf tv - intOf fv).toNat)
 case atStart => exact ⟨a, b, rfl, rfl, HM0⟩
 case round =>
  obtain ⟨lo, hi, rfl, rfl, HY⟩ := hrel;have hlt := HY.out.lt;have hhi : hi < 1099511627776 := (by have := HY.out.le; have := HI.out; omega);have hlo : lo < 1099511627776 := (by omega);by_cases h1 : lo + 1 < hi
  ·have h1I : (lo : Int) + 1 < (hi : Int) := (by omega);obtain ⟨m, hm⟩ : ∃ m, m = (lo + hi) / 2 := ⟨_, rfl⟩;have hq : ((lo : Int) + (hi : Int)).tdiv 2 = (m : Int) := (by rw [Int.tdiv_eq_ediv_of_nonneg (by omega), hm]; omega);have hm1 : lo < m := (by omega);have hm2 : m < hi := (by omega);have hwm : wrap64 (m : Int) = (m : Int) := IntWalk.wrap64_in _ (by omega);have HC := lh (aI hm1 (aI hm2 hlt));have HBM := lh (HB.out wr lo m HY.out.fin hm1 (by have := HY.out.le; omega));clear hm hm1 hm2 h1 hlt;go_wp2_with fail;go_at_call 47;with_reducible refine HBM.out.mono ?_
   rintro e w1 ⟨r, rfl, hr, hf, ht⟩;have HR := lh (aI hr (aI hf ht));clear hr hf ht;cases r
   ·go_wp2_with fail;go_roundw
    case rel => exact ⟨m, hi, rfl, rfl, lh (HY.out.right HC.out.1 HC.out.2.1 HR.out.2.1 HR.out.2.2 fun h => by have := HR.out.1.2 h; cases this)⟩
    case measure => exact lb_meas (Nat.le_of_lt HC.out.1) (nlr _) (.inl HC.out.1) HC.out.2.2 HC.out.2.1
   ·go_wp2_with fail;go_roundw
    case rel => exact ⟨lo, m, rfl, rfl, lh (HY.out.left HC.out.1 HC.out.2.1 HR.out.2.1 HR.out.2.2 (HR.out.1.1 (by trivial)))⟩
    case measure => exact lb_meas (nlr _) (Nat.le_of_lt HC.out.2.1) (.inr HC.out.2.1) HC.out.2.2 HC.out.1
  ·have h1I : ¬ (lo : Int) + 1 < (hi : Int) := (by omega)
   have HP := lh (show LbE S fb F d.t a b w (.returned (.int .i64 (lo : Int))) wr from by
    obtain ⟨i, y1, y2, y3⟩ := HY.out.yes;have e : i = lo := (by omega);rw [e] at y3
    exact ⟨lo, rfl, HY.out.al, by have := HY.out.hb; omega, y3, HY.out.no, HY.out.fin, HY.out.tur⟩)
   clear h1 hlt;go_wp2_with fail;refine bodyPost_ret (v := .int .i64 (lo : Int)) (by simp [results, Tryz.results48, go_sem]) rfl HP.out
open Go.RowKit Go.Deep Go.Sort
structure LmM (S : Nat -> Prop) (fb : Nat) (F : FN) (t : PN) (a : Nat) (w : World) (fr sz : Nat) (wr : World) : Prop where
 fin : FindAt S wr fb F F.N
 tur : Turned (· = F.mb) w wr
 al : a <= fr
 le : fr <= F.N + 1
 no : ∀ i, a <= i -> i < fr -> ¬ Bg F t i
 sz : fr = F.N + 1 \/ sz = fr - a + 1
theorem LmM.go {S : Nat -> Prop} {fb a fr sz q : Nat} {F : FN} {t : PN} {w wr w' : World} (h : LmM S fb F t a w fr sz wr) (hq : (q = fr + sz /\ fr + sz <= F.N + 1) \/ q = F.N + 1) (hf : FindAt S w' fb F F.N) (ht : Turned (· = F.mb) wr w') (hlt : fr < F.N + 1) (hy : ¬ ∃ i j, fr <= i /\ i < q /\ F.rel t i j = true) : LmM S fb F t a w q (sz * 2) w' := by
 have h1 := h.al;have h2 := h.sz;refine ⟨hf, turT h.tur ht, by omega, by omega, fun i i1 i2 => ?_, by omega⟩;by_cases e : i < fr
 ·exact h.no i i1 e
 ·exact fun ⟨j, hj⟩ => hy ⟨i, j, by omega, i2, hj⟩
theorem lm_meas {n fr q : Nat} (h1 : fr < n + 1) (h2 : fr < q) : (((n : Int) + 1) - intOf (.int .i64 (q : Int))).toNat < (((n : Int) + 1) - intOf (.int .i64 (fr : Int))).toNat := by
 show (((n : Int) + 1) - (q : Int)).toNat < (((n : Int) + 1) - (fr : Int)).toNat;omega
def LmE (S : Nat -> Prop) (fb : Nat) (F : FN) (t : PN) (a : Nat) (w : World) (e : Ending) (w' : World) : Prop := ∃ (r : Nat) (ok : Bool), e = .returned (.tuple #[.int .i64 (r : Int), .bool ok]) /\ (ok = true -> a <= r /\ r <= F.N /\ Bg F t r /\ ∀ k, a <= k -> k < r -> ¬ Bg F t k) /\ (ok = false -> ∀ i, a <= i -> i <= F.N -> ¬ Bg F t i) /\ FindAt S w' fb F F.N /\ Turned (· = F.mb) w w'
set_option maxRecDepth 100000 in
set_option maxHeartbeats 1000000 in
theorem leftmost_is {S : Nat -> Prop} {w : World} {fb : Nat} {F : FN} (ha : FindAt S w fb F F.N) {k : Nat} {d : ND} (hd : F.nds[k]? = some d) {a : Nat} (hab : a <= F.N) : Calls Tryz.prog 28 #[ptrV fb, .int .i64 (k : Int), .int .i64 (a : Int)] w (LmE S fb F d.t a w) := by
 have HM0 := lh (show LmM S fb F d.t a w a 1 w from ⟨ha, Turned.refl _ _, nlr _, by omega, fun i h1 h2 => absurd h1 (by omega), .inr (by omega)⟩);have HB := lh fun (V : World) (lo hi : Nat) (hf : FindAt S V fb F F.N) (h1 : lo < hi) (h2 : hi <= F.N + 1) => begun_is hf hd h1 h2;have HL := lh fun (V : World) (lo hi : Nat) (hf : FindAt S V fb F F.N) (h1 : lo < hi) (h2 : hi <= F.N + 1) (hy : ∃ i, lo <= i /\ i < hi /\ Bg F d.t i) => least_begun hf hd h1 h2 hy;obtain ⟨n, hn⟩ : ∃ n, n = F.s.size := ⟨_, rfl⟩;have hNn : F.N = n := hn.symm;have hnb : n <= 100000 := (by have := ha.small; omega);have HN := lh hNn;have f0 := ha.f0;have HA0 := lh hn;clear ha hd hab hNn;go_enter Tryz.func28, Tryz.ntmps28;go_upto_region 2 with fail;try rw [<- HA0.out]
 clear f0 hn;go_wp2_with fail;go_loopw [2, 9, 10] (fun fv sv _ wr => ∃ (fr sz : Nat), fv = .int .i64 (fr : Int) /\ sv = .int .i64 (sz : Int) /\ Hid (LmM S fb F d.t a w fr sz wr)) (fun fv _ _ _ => (((n : Int) + 1) - intOf fv).toNat)
 case atStart => exact ⟨a, 1, rfl, rfl, HM0⟩
 case round =>
  obtain ⟨fr, sz, rfl, rfl, HY⟩ := hrel;by_cases h1 : fr < n + 1
  ·have h1I : (fr : Int) < (n : Int) + 1 := (by omega);have hszb : sz <= 100001 := (by have := HY.out.sz; have := HN.out; omega);have hsz0 : 0 < sz := (by have := HY.out.sz; have := HN.out; omega);obtain ⟨q, hq⟩ : ∃ q, q = min (fr + sz) (n + 1) := ⟨_, rfl⟩;have hqI : min ((fr : Int) + (sz : Int)) ((n : Int) + 1) = (q : Int) := (by rw [hq]; omega);have hq1 : fr < q := (by omega);have hq2 : q <= n + 1 := (by omega);have HC := lh (aI h1 (aI hq1 (aI hq2 (show (q = fr + sz /\ fr + sz <= n + 1) \/ q = n + 1 by omega))));have HBM := lh (HB.out wr fr q HY.out.fin hq1 (by have := HN.out; omega));have hqb : q < 1099511627776 := (by omega);clear hq hq1 hq2 h1;go_wp2_with fail;go_at_call 47;with_reducible refine HBM.out.mono ?_
   rintro e w1 ⟨r, rfl, hr, hf, ht⟩;have HR := lh (aI hr (aI hf ht));clear hr hf ht;cases r
   ·go_wp2_with fail;go_roundw
    case rel => exact ⟨q, sz * 2, rfl, by go_num, lh (HY.out.go (by rw [HN.out]; exact HC.out.2.2.2) HR.out.2.1 HR.out.2.2 (by rw [HN.out]; exact HC.out.1) fun h => by have := HR.out.1.2 h; cases this)⟩
    case measure => exact lm_meas HC.out.1 HC.out.2.1
   ·have HLB := lh (HL.out w1 fr q HR.out.2.1 HC.out.2.1 (by have := HN.out; have := HC.out.2.2.1; omega) (by obtain ⟨i, j, h1, h2, h3⟩ := HR.out.1.1 rfl; exact ⟨i, h1, h2, j, h3⟩));go_wp2_with fail;go_at_call 48;with_reducible refine HLB.out.mono ?_
    rintro e w2 ⟨i, rfl, h1, h2, h3, h4, h5, h6⟩
    have HP := lh (show LmE S fb F d.t a w (.returned (.tuple #[.int .i64 (i : Int), .bool true])) w2 from ⟨i, true, rfl, fun _ => ⟨Nat.le_trans HY.out.al h1, by have := HN.out; have := HC.out.2.2.1; omega, h3, fun k k1 k2 => by
     by_cases e : k < fr
     ·exact HY.out.no k k1 e
     ·exact h4 k (by omega) k2⟩, (fun h => by cases h), h5, turT (turT HY.out.tur HR.out.2.2) h6⟩)
    clear h1 h2 h3 h4 h5 h6;go_wp2_with fail;go_ret2
    exact HP.out
  ·have h1I : ¬ (fr : Int) < (n : Int) + 1 := (by omega);have HP := lh (show LmE S fb F d.t a w (.returned (.tuple #[.int .i64 0, .bool false])) wr from ⟨0, false, rfl, (fun h => by cases h), fun _ i i1 i2 => HY.out.no i i1 (by have := HN.out; omega), HY.out.fin, HY.out.tur⟩);clear h1;go_wp2_with fail;go_ret2
   exact HP.out
open Go.RowKit Go.Deep Go.Sort
abbrev Sp := Nat -> Int × Int
def setE (sp : Sp) (e : Ev) : Sp := fun k => if k = e.1 then ((e.2.1 : Int), (e.2.2 : Int)) else sp k
def putE (sp : Sp) (es : List Ev) : Sp := es.foldl setE sp
theorem putE_append (sp : Sp) (a b : List Ev) : putE sp (a ++ b) = putE (putE sp a) b := List.foldl_append
def spC (sp : Sp) : Array Value := #[.int .i64 (sp 0).1, .int .i64 (sp 0).2, .int .i64 (sp 1).1, .int .i64 (sp 1).2, .int .i64 (sp 2).1, .int .i64 (sp 2).2, .int .i64 (sp 3).1, .int .i64 (sp 3).2, .int .i64 (sp 4).1, .int .i64 (sp 4).2, .int .i64 (sp 5).1, .int .i64 (sp 5).2, .int .i64 (sp 6).1, .int .i64 (sp 6).2, .int .i64 (sp 7).1, .int .i64 (sp 7).2, .int .i64 (sp 8).1, .int .i64 (sp 8).2, .int .i64 (sp 9).1, .int .i64 (sp 9).2]
def putS (sp : Sp) (n : Nat) (i j : Int) : Sp := fun k => if k = n then (i, j) else sp k
theorem spC_set (sp : Sp) (n : Nat) (i j : Int) (h : n < 10) : ((spC sp).setIfInBounds (n * 2) (.int .i64 i)).setIfInBounds (n * 2 + 1) (.int .i64 j) = spC (putS sp n i j) := by
 rcases (show n = 0 \/ n = 1 \/ n = 2 \/ n = 3 \/ n = 4 \/ n = 5 \/ n = 6 \/ n = 7 \/ n = 8 \/ n = 9 by omega) with rfl | rfl | rfl | rfl | rfl | rfl | rfl | rfl | rfl | rfl <;> rfl
theorem spC_cell (sp : Sp) (n : Nat) (h : n < 10) : (spC sp)[n * 2]? = some (.int .i64 (sp n).1) /\ (spC sp)[n * 2 + 1]? = some (.int .i64 (sp n).2) := by
 rcases (show n = 0 \/ n = 1 \/ n = 2 \/ n = 3 \/ n = 4 \/ n = 5 \/ n = 6 \/ n = 7 \/ n = 8 \/ n = 9 by omega) with rfl | rfl | rfl | rfl | rfl | rfl | rfl | rfl | rfl | rfl <;> exact ⟨rfl, rfl⟩
def MatA (w : World) (gm : Nat) (sp : Sp) : Prop := w.heap[gm]? = some (.cells (spC sp) 34 (0, 0))
structure GrpP (S : Nat -> Prop) (fb : Nat) (F : FN) (L gm : Nat) (w : World) (sp : Sp) : Prop where
 fin : FindAt S w fb F L
 sg : S gm
 nm : gm ≠ F.mb
 nf : gm ≠ fb
 mat : MatA w gm sp
def GT (F : FN) (gm : Nat) (k : Nat) : Prop := k = F.mb \/ k = gm
def GrpE (S : Nat -> Prop) (fb : Nat) (F : FN) (L gm : Nat) (sp : Sp) (w : World) (e : Ending) (w' : World) : Prop := e = .returned (.tuple #[]) /\ GrpP S fb F L gm w' sp /\ Turned (GT F gm) w w'
def GrpC (fb : Nat) (F : FN) (k : Nat) : Prop := ∀ (S : Nat -> Prop) (w : World) (L gm a z : Nat) (sp : Sp) (d : ND), GrpP S fb F L gm w sp -> F.nds[k]? = some d -> a <= z -> z <= L -> F.rel d.t a z = true ->
 Calls Tryz.prog 54 #[ptrV fb, .int .i64 (k : Int), .int .i64 (a : Int), .int .i64 (z : Int), ptrV gm] w (GrpE S fb F L gm (putE sp (evT F.T F.b d.t a z)) w)
def NdP (F : FN) (k : Nat) (v : Value) : Prop := ∃ g o, F.A = some ⟨g, o, none⟩ /\ v = .pointer (some ⟨g, o + k * 13, none⟩)
def SubC (f : FuncId) (K : Int) (fb : Nat) (F : FN) (k : Nat) : Prop := ∀ (S : Nat -> Prop) (w : World) (L gm a z : Nat) (sp : Sp) (d : ND) (v : Value), GrpP S fb F L gm w sp -> F.nds[k]? = some d -> d.x.kind = K -> NdP F k v -> a <= z -> z <= L -> F.rel d.t a z = true ->
 Calls Tryz.prog f #[ptrV fb, v, .int .i64 (a : Int), .int .i64 (z : Int), ptrV gm] w (GrpE S fb F L gm (putE sp (evT F.T F.b d.t a z)) w)
theorem GrpP.mono {S : Nat -> Prop} {fb L gm : Nat} {F : FN} {w w' : World} {sp : Sp} (h : GrpP S fb F L gm w sp) (hf : FindAt S w' fb F L) (ht : Turned (· = F.mb) w w') : GrpP S fb F L gm w' sp := ⟨hf, h.sg, h.nm, h.nf, ht.obj h.mat h.nm⟩
theorem GrpP.below {S : Nat -> Prop} {fb L gm : Nat} {F : FN} {w w' : World} {sp : Sp} (h : GrpP S fb F L gm w sp) (hb : Below w.heap.size w w') : GrpP S fb F L gm w' sp := h.mono (h.fin.below hb) (Turned.of_below hb)
theorem GrpP.put {S : Nat -> Prop} {fb L gm : Nat} {F : FN} {w : World} {sp : Sp} (h : GrpP S fb F L gm w sp) {n : Nat} (hn : n < 10) (i j : Int) :
  GrpP S fb F L gm ((w.setCell ⟨gm, n * 2, none⟩ (.int .i64 i)).setCell ⟨gm, n * 2 + 1, none⟩ (.int .i64 j)) (putS sp n i j) /\ Turned (· = gm) w ((w.setCell ⟨gm, n * 2, none⟩ (.int .i64 i)).setCell ⟨gm, n * 2 + 1, none⟩ (.int .i64 j)) := by
 have ht : Turned (· = gm) w ((w.setCell ⟨gm, n * 2, none⟩ (.int .i64 i)).setCell ⟨gm, n * 2 + 1, none⟩ (.int .i64 j)) := ((Turned.refl (· = gm) w).put' rfl (n * 2) _).put' rfl (n * 2 + 1) _;refine ⟨⟨h.fin.go ht (fun k hk _ => ⟨by rw [hk]; exact h.sg, by rw [hk]; exact h.nm, by rw [hk]; exact h.nf⟩) h.fin.sm h.fin.sf (fun k hk => .inl hk) fun k hk => Nat.lt_of_lt_of_le (h.fin.old k hk) ht.size, h.sg, h.nm, h.nf, ?_⟩, ht⟩;unfold MatA;rw [set_obj (set_obj h.mat (n * 2) (.int .i64 i)) (n * 2 + 1) (.int .i64 j), spC_set sp n i j hn]
theorem gtT {F : FN} {gm : Nat} {a b c : World} (h : Turned (GT F gm) a b) (k : Turned (GT F gm) b c) : Turned (GT F gm) a c := h.trans k fun _ _ h => h
theorem gtB {F : FN} {gm : Nat} {a b c : World} (h : Turned (GT F gm) a b) (k : Below b.heap.size b c) : Turned (GT F gm) a c := h.trans (Turned.of_below (S := fun _ => False) k) fun _ _ h => h.elim
theorem gtM {F : FN} {gm : Nat} {a b : World} (h : Turned (· = F.mb) a b) : Turned (GT F gm) a b := turned_mono h fun _ hk => .inl hk
theorem ndp_cells {S : Nat -> Prop} {w : World} {fb L : Nat} {F : FN} (_h : FindAt S w fb F L) {k : Nat} {d : ND} (hd : F.nds[k]? = some d) {v : Value} (hv : NdP F k v) : ∃ g o, F.A = some ⟨g, o, none⟩ /\ v = .pointer (some ⟨g, o + k * 13, none⟩) /\ ∀ (V : World), FindAt S V fb F L -> g < V.heap.size /\ ∀ (j : Nat) (u : Value), d.cells[j]? = some u -> V.cell? ⟨g, o + k * 13 + j, none⟩ = some u := by
 obtain ⟨g, o, hA, e⟩ := hv;refine ⟨g, o, hA, e, fun V hV => ?_⟩;obtain ⟨g', o', hA', hl, _, hc⟩ := hV.cell hd;rw [hA] at hA';cases hA'
 exact ⟨hl, hc⟩
theorem FindAt.kidAt {S : Nat -> Prop} {w : World} {fb L : Nat} {F : FN} (h : FindAt S w fb F L) {k : Nat} {d : ND} (hd : F.nds[k]? = some d) {i : Nat} (hi : i < d.ks.length) : ∃ q d', d.ks[i]? = some q /\ q < k /\ F.nds[q]? = some d' /\ (kidsOf d.t)[i]? = some d'.t /\ ∀ V, FindAt S V fb F L -> ∃ g o, d.kA = some ⟨g, o, none⟩ /\ g < V.heap.size /\ V.cell? ⟨g, o + i, none⟩ = some (.int .i64 (q : Int)) := by
 obtain ⟨q, hq⟩ : ∃ q, d.ks[i]? = some q := ⟨d.ks[i]'hi, List.getElem?_eq_getElem _⟩;obtain ⟨h1, d', h2, h3⟩ := (h.dat k d hd).kid i q hq;exact ⟨q, d', hq, h1, h2, h3, fun V hV => (hV.mem k d hd).kids.cell (intsV_at hq)⟩
theorem altE_next {rs : List Rel} {es : List EvF} {i a z : Nat} {r : Rel} {f : EvF} (hr : rs[i]? = some r) (he : es[i]? = some f) (h : r a z = false) : altE (rs.drop i) (es.drop i) a z = altE (rs.drop (i + 1)) (es.drop (i + 1)) a z := by
 rw [drop_next hr, drop_next he];simp only [altE];rw [h, if_neg (by simp)]
theorem altE_here {rs : List Rel} {es : List EvF} {i a z : Nat} {r : Rel} {f : EvF} (hr : rs[i]? = some r) (he : es[i]? = some f) (h : r a z = true) : altE (rs.drop i) (es.drop i) a z = f a z := by
 rw [drop_next hr, drop_next he];simp only [altE];rw [h, if_pos rfl]
theorem any_next {rs : List Rel} {i a z : Nat} {r : Rel} (hr : rs[i]? = some r) (h : r a z = false) (ha : ((rs.drop i).any fun r => r a z) = true) : ((rs.drop (i + 1)).any fun r => r a z) = true := by
 rw [drop_next hr, List.any_cons, h, Bool.false_or] at ha;exact ha
set_option maxRecDepth 100000 in
set_option maxHeartbeats 1000000 in
theorem alt_groups {fb : Nat} {F : FN} {k : Nat} (hIH : ∀ q, q < k -> GrpC fb F q) : SubC 85 3 fb F k := by
 intro S w L gm a z sp d v hG hd hk hv haz hzL hrel;obtain ⟨gn, on, hA, hve, hcell⟩ := ndp_cells hG.fin hd hv;subst hve;have hn := hG.fin.dat k d hd;have hR : F.rel d.t = fun i j => (semL F.T F.b (kidsOf d.t)).any fun r => r i j := (by rw [hG.fin.rel hd, hk]; rfl)
 have hE : evT F.T F.b d.t a z = altE (semL F.T F.b (kidsOf d.t)) (evL F.T F.b (kidsOf d.t)) a z := by
  rw [ev_cnt, <- hn.kind, hk];rfl
 rw [hR] at hrel;have hzN : z <= F.N := Nat.le_trans hzL hG.fin.lim;have HK := lh fun (i : Nat) (hi : i < d.ks.length) => hG.fin.kidAt hd hi;have HM := lh fun (V : World) (hV : FindAt S V fb F L) (q : Nat) (d' : ND) (hd' : F.nds[q]? = some d') => matches_is hV hd' (i := a) (j := z) (by omega) hzL;have HC := lh hcell;have HIH := lh fun (q : Nat) (hq : q < k) (V : World) (hV : GrpP S fb F L gm V sp) (d' : ND) (hd' : F.nds[q]? = some d') (hr : F.rel d'.t a z = true) => hIH q hq S V L gm a z sp d' hV hd' haz hzL hr;have HE := lh (aI hE hrel);have hmany := hn.many;have hlen := hn.len;obtain ⟨hgl, hcw⟩ := hcell w hG.fin;have c9 := hcw 9 _ rfl;obtain ⟨nk, hnk⟩ : ∃ n, n = d.ks.length := ⟨_, rfl⟩;rw [<- hnk] at c9 HK hmany;have HN := lh (aI hnk hlen);have HG := lh hG;obtain ⟨kA, hkA⟩ : ∃ kA, kA = d.kA := ⟨_, rfl⟩;rw [<- hkA] at c9 HK;clear hd hk hv haz hzL hrel hn hR hE hzN hcw hnk hlen hG hIH hkA hA hcell;go_enter Tryz.func85, Tryz.ntmps85;go_upto_region 1 with fail;go_loopw [11, 17] (fun _ iv wr => ∃ (i : Nat), iv = .int .i64 (i : Int) /\ i <= nk /\ Hid (GrpP S fb F L gm wr sp /\ Turned (GT F gm) w wr /\ evT F.T F.b d.t a z = altE ((semL F.T F.b (kidsOf d.t)).drop i) ((evL F.T F.b (kidsOf d.t)).drop i) a z /\ (((semL F.T F.b (kidsOf d.t)).drop i).any fun r => r a z) = true)) (fun _ iv _ => nk - (intOf iv).toNat)
 case atStart => exact ⟨0, rfl, Nat.zero_le _, lh ⟨HG.out, Turned.refl _ _, HE.out.1, HE.out.2⟩⟩
 case round =>
  obtain ⟨i, rfl, hin, HY⟩ := hrel;by_cases hlt : i < nk
  ·obtain ⟨q, d', hq, hqk, hd', htk, hkc⟩ := HK.out i hlt;obtain ⟨gk, ok, hkA, hgk, hck⟩ := hkc wr HY.out.1.fin;have HM1 := lh (HM.out wr HY.out.1.fin q d' hd');have HQ := lh (aI hqk (aI hd' (aI htk hlt)));have hiI : (i : Int) < (nk : Int) := (by omega);have hi0 : (0 : Int) <= (i : Int) := (by omega);have hib : i < 1099511627776 := (by omega);subst hkA;clear hq hqk hd' htk hkc hlt hin c9;go_wp2_with fail;go_at_call 33;with_reducible refine HM1.out.mono ?_
   rintro e w1 ⟨b, rfl, hb, hf1, ht1⟩;have hr : (semL F.T F.b (kidsOf d.t))[i]? = some (F.rel d'.t) := (by rw [semL_at, HQ.out.2.2.1]; rfl);have he : (evL F.T F.b (kidsOf d.t))[i]? = some (evT F.T F.b d'.t) := (by rw [evL_at, HQ.out.2.2.1]; rfl);have HG1 := lh (HY.out.1.mono hf1 ht1);have HT1 := lh (gtT HY.out.2.1 (gtM (gm := gm) ht1));cases b
   ·have HS := lh (show evT F.T F.b d.t a z = altE ((semL F.T F.b (kidsOf d.t)).drop (i + 1)) ((evL F.T F.b (kidsOf d.t)).drop (i + 1)) a z /\ (((semL F.T F.b (kidsOf d.t)).drop (i + 1)).any fun r => r a z) = true from
     ⟨by rw [HY.out.2.2.1, altE_next hr he hb.symm], any_next hr hb.symm HY.out.2.2.2⟩)
    clear hb hf1 ht1 hr he;go_wp2_with fail;go_roundw
    case rel => exact ⟨i + 1, by go_num, by have := HQ.out.2.2.2; omega, lh ⟨HG1.out, HT1.out, HS.out.1, HS.out.2⟩⟩
    case measure =>
     have := HQ.out.2.2.2;show nk - (((i : Int) + 1).toNat) < nk - (i : Int).toNat;omega
   ·have HS := lh (show evT F.T F.b d.t a z = evT F.T F.b d'.t a z by rw [HY.out.2.2.1, altE_here hr he hb.symm]);have HC1 := lh (HIH.out q HQ.out.1 w1 HG1.out d' HQ.out.2.1 hb.symm);clear hb hf1 ht1 hr he;go_wp2_with fail;go_at_call 54;with_reducible refine HC1.out.mono ?_
    rintro e w2 ⟨rfl, hg2, ht2⟩;have HP := lh (show GrpE S fb F L gm (putE sp (evT F.T F.b d.t a z)) w (.returned (.tuple #[])) w2 from ⟨rfl, by rw [HS.out]; exact hg2, gtT HT1.out ht2⟩);clear hg2 ht2;go_wp2_with fail;go_end0
    exact HP.out
  ·exfalso;have h1 := HY.out.2.2.2;rw [List.drop_eq_nil_iff.2 (by rw [semL_eq, List.length_map, <- HN.out.2, <- HN.out.1]; omega)] at h1;cases h1
open Go.RowKit Go.Deep Go.Sort
theorem span_of {num : Int} (h : spanB num = true) : ∃ n : Nat, num = (n : Int) /\ 1 <= n /\ n < 10 := by
 unfold spanB at h;rw [Bool.and_eq_true, decide_eq_true_eq, decide_eq_true_eq] at h;exact ⟨num.toNat, by omega, by omega, by omega⟩
set_option maxRecDepth 100000 in
set_option maxHeartbeats 2000000 in
theorem groups_step {fb : Nat} {F : FN} {k : Nat} (hIH : ∀ q, q < k -> GrpC fb F q) (hRow : SubC 84 2 fb F k) (hRep : SubC 86 4 fb F k) : GrpC fb F k := by
 intro S w L gm a z sp d hG hd haz hzL hrel;obtain ⟨gn, on, hA, hgn, _, hcw⟩ := hG.fin.cell hd;have hn := hG.fin.dat k d hd;have hgrp := hn.grp;have hklt := (List.getElem?_eq_some_iff.1 hd).1;have hf3 := hG.fin.f3;have hfb := lts hG.fin.obj;rw [hA] at hf3;have c0 := hcw 0 (.int .i64 d.x.kind) rfl;have c7 := hcw 7 (.int .i64 d.x.num) rfl;have c9 := hcw 9 (.slice d.kA d.ks.length d.kc) rfl;have c11 := hcw 11 (.bool d.g) rfl;rw [Nat.add_zero] at c0;have hfew := hG.fin.few;obtain ⟨n, hnn⟩ : ∃ n, n = F.nds.length := ⟨_, rfl⟩;rw [<- hnn] at hf3 hklt hfew;have hk0 : (0 : Int) <= (k : Int) := (by omega);have hkI : (k : Int) < (n : Int) := (by omega);have hE := ev_cnt F.T F.b d.t;rw [<- hn.kind, <- hn.lo, <- hn.hi, <- hn.num] at hE;have HNP : NdP F k (.pointer (some ⟨gn, on + k * 13, none⟩)) := ⟨gn, on, hA, rfl⟩;have HG := lh hG;obtain ⟨kd, hkd⟩ : ∃ n, n = d.x.kind := ⟨_, rfl⟩;rw [<- hkd] at c0;obtain ⟨g, hgg⟩ : ∃ g, g = d.g := ⟨_, rfl⟩;rw [<- hgg] at c11;cases g
 ·have HP := lh (show GrpE S fb F L gm (putE sp (evT F.T F.b d.t a z)) w (.returned (.tuple #[])) w from ⟨rfl, by
   rw [no_ev F.T F.b d.t (by rw [<- hgrp, <- hgg]) a z]
   exact hG, Turned.refl _ _⟩)
  clear hd haz hzL hrel hA hcw hn hgrp hnn hE HNP hG hkd hgg hIH hRow hRep hfew hklt;go_enter Tryz.func54, Tryz.ntmps54;go_wp2_with fail;go_end0
  exact HP.out
 by_cases h2 : kd = 2
 ·have HC := lh (hRow S w L gm a z sp d _ hG hd (by rw [<- hkd]; exact h2) HNP haz hzL hrel);have h2b : (kd == 2) = true := (by simpa using h2);clear hd haz hzL hrel hA hcw hn hgrp hnn hE HNP hG hkd hgg hIH hRow hRep hfew hklt h2;go_enter Tryz.func54, Tryz.ntmps54;go_wp2_with fail;go_at_call 84;with_reducible refine HC.out.mono ?_
  rintro e w1 ⟨rfl, h1, h3⟩;have HP := lh (aI h1 h3);clear h1 h3;go_wp2_with fail;go_end0
  exact ⟨rfl, HP.out.1, HP.out.2⟩
 have h2b : (kd == 2) = false := (by simpa using h2);by_cases h3 : kd = 3
 ·have HC := lh (alt_groups hIH S w L gm a z sp d _ hG hd (by rw [<- hkd]; exact h3) HNP haz hzL hrel);have h3b : (kd == 3) = true := (by simpa using h3);clear hd haz hzL hrel hA hcw hn hgrp hnn hE HNP hG hkd hgg hIH hRow hRep hfew hklt h2 h3;go_enter Tryz.func54, Tryz.ntmps54;go_wp2_with fail;go_at_call 85;with_reducible refine HC.out.mono ?_
  rintro e w1 ⟨rfl, h1, h3⟩;have HP := lh (aI h1 h3);clear h1 h3;go_wp2_with fail;go_end0
  exact ⟨rfl, HP.out.1, HP.out.2⟩
 have h3b : (kd == 3) = false := (by simpa using h3);by_cases h5 : kd = 5
 ·have h5b : (kd == 5) = true := (by simpa using h5);obtain ⟨q, d', e1, e2, e3, e4⟩ := hG.fin.grp0 hd (by rw [<- hkd]; exact h5)
  have hR : F.rel d.t = F.rel d'.t := by
   rw [hG.fin.rel hd, <- hkd, h5];show headR (semL F.T F.b (kidsOf d.t)) = _;cases hko : kidsOf d.t with
   | nil => rw [hko] at e4; simp at e4
   | cons t0 ts =>
    rw [hko] at e4;simp at e4;rw [<- e4];simp only [semL, headR];rfl
  have hEv : evT F.T F.b d.t a z = (if 1 <= d.x.num /\ d.x.num <= 9 then [(d.x.num.toNat, a, z)] else []) ++ evT F.T F.b d'.t a z := by
   rw [hE, <- hkd, h5];show (if 1 <= d.x.num /\ d.x.num <= 9 then [(d.x.num.toNat, a, z)] else []) ++ headE (evL F.T F.b (kidsOf d.t)) a z = _;cases hko : kidsOf d.t with
   | nil => rw [hko] at e4; simp at e4
   | cons t0 ts =>
    rw [hko] at e4;simp at e4;rw [<- e4];simp only [evL, headE]
  have HIH := lh fun (V : World) (sq : Sp) (hV : GrpP S fb F L gm V sq) => hIH q e2 S V L gm a z sq d' hV e3 haz hzL (by rw [<- hR]; exact hrel)
  have HKC := lh fun (V : World) (hV : FindAt S V fb F L) => (show ∃ gk ok, d.kA = some ⟨gk, ok, none⟩ /\ gk < V.heap.size /\ V.cell? ⟨gk, ok, none⟩ = some (.int .i64 (q : Int)) by
   obtain ⟨gk, ok, k1, k2, k3⟩ := (hV.mem k d hd).kids.cell (intsV_at e1)
   exact ⟨gk, ok, k1, k2, k3⟩)
  have HCC := lh fun (V : World) (hV : FindAt S V fb F L) => (show gn < V.heap.size /\ V.cell? ⟨gn, on + k * 13 + 9, none⟩ = some (.slice d.kA d.ks.length d.kc) by
   obtain ⟨g', o', hA', hl, _, hc⟩ := hV.cell hd;rw [hA] at hA';cases hA'
   exact ⟨hl, hc 9 _ rfl⟩)
  obtain ⟨nk, hnk⟩ : ∃ n, n = d.ks.length := ⟨_, rfl⟩;have hnk0 : 0 < nk := (by rw [hnk]; exact (List.getElem?_eq_some_iff.1 e1).1);rw [<- hnk] at c9 HCC;have hnkI : (0 : Int) < (nk : Int) := (by omega);obtain ⟨gk, ok, hkA, hgk, hck⟩ := HKC.out w hG.fin;have HKA := lh hkA;rw [hkA] at c9 HCC;have hgml := lts hG.mat;have HSP := lh fun (V : World) => hasSpan_is d.x.num V;cases hsp : spanB d.x.num
  ·have HEV := lh (show evT F.T F.b d.t a z = evT F.T F.b d'.t a z by
    rw [hEv, if_neg]
    ·rfl
    ·rintro ⟨x1, x2⟩;unfold spanB at hsp;rw [dqt x1, dqt (by omega : d.x.num < 10)] at hsp
     cases hsp)
   rw [hsp] at HSP;clear hd haz hzL hrel hA hcw hn hgrp hnn hE HNP hG hkd hgg hIH hRow hRep hfew hklt h2 h3 h5 e1 e2 e3 e4 hR hEv hnk hkA hsp;go_enter Tryz.func54, Tryz.ntmps54;go_wp2_with fail;go_at_call 68;with_reducible refine (HSP.out _).mono ?_
   rintro e w1 ⟨rfl, hb1⟩;have hg1 := HG.out.below hb1;obtain ⟨gk', ok', hkA', hgk1, hck1⟩ := HKC.out w1 hg1.fin;obtain ⟨hgn1, hc91⟩ := HCC.out w1 hg1.fin;rw [HKA.out] at hkA';cases hkA'
   have HC := lh (HIH.out w1 sp hg1);have HB := lh hb1;clear hg1 hb1 hck c9 c11 c7 c0 hf3;go_wp2_with fail;go_at_call 54;with_reducible refine HC.out.mono ?_
   rintro e w2 ⟨rfl, h1, h3⟩;have HP := lh (show GrpE S fb F L gm (putE sp (evT F.T F.b d.t a z)) w (.returned (.tuple #[])) w2 from ⟨rfl, by rw [HEV.out]; exact h1, (Turned.of_below (S := GT F gm) HB.out).trans h3 fun _ _ h => h⟩);clear h1 h3;go_wp2_with fail;go_end0
   exact HP.out
  ·obtain ⟨nn, hnn2, hn1, hn10⟩ := span_of hsp
   have HEV := lh (show putE sp (evT F.T F.b d.t a z) = putE (putS sp nn a z) (evT F.T F.b d'.t a z) by
    rw [hEv, if_pos (by omega), putE_append, hnn2]
    rfl)
   rw [hsp] at HSP;rw [hnn2] at c7 HSP
   have HCC7 := lh fun (V : World) (hV : FindAt S V fb F L) => (show V.cell? ⟨gn, on + k * 13 + 7, none⟩ = some (.int .i64 (nn : Int)) by
    obtain ⟨g', o', hA', hl, _, hc⟩ := hV.cell hd;rw [hA] at hA';cases hA'
    have := hc 7 (.int .i64 d.x.num) rfl;rw [hnn2] at this
    exact this)
   have hnn10 : (nn : Int) < 10 := (by omega);have hnn0 : (0 : Int) <= (nn : Int) := (by omega);clear hd haz hzL hrel hA hcw hn hgrp hnn hE HNP hG hkd hgg hIH hRow hRep hfew hklt h2 h3 h5 e1 e2 e3 e4 hR hEv hnk hkA hsp hnn2 hn1;go_enter Tryz.func54, Tryz.ntmps54;go_wp2_with fail;go_at_call 68;with_reducible refine (HSP.out _).mono ?_
   rintro e w1 ⟨rfl, hb1⟩;have hg1 := HG.out.below hb1;have hg1d : GrpP S fb F L gm w1.drew sp := hg1.below (bD w1 1);have hcm := spC_cell sp nn hn10;have m0 : w1.drew.cell? ⟨gm, nn * 2, none⟩ = some (.int .i64 (sp nn).1) := (obc hg1d.mat (nn * 2)).trans hcm.1;have m1 : w1.drew.cell? ⟨gm, nn * 2 + 1, none⟩ = some (.int .i64 (sp nn).2) := (obc hg1d.mat (nn * 2 + 1)).trans hcm.2;have m2 := obj_frozen hg1d.mat (nn * 2);have m3 := obj_frozen hg1d.mat (nn * 2 + 1);have m4 : gm < w1.heap.size := lts hg1d.mat;have c7' := HCC7.out w1.drew hg1d.fin;have hput := hg1d.put hn10 a z;obtain ⟨w2, hw2⟩ : ∃ w2, w2 = ((w1.setCell ⟨gm, nn * 2, none⟩ (.int .i64 (a : Int))).setCell ⟨gm, nn * 2 + 1, none⟩ (.int .i64 (z : Int))).drew := ⟨_, rfl⟩;have hput : GrpP S fb F L gm w2 (putS sp nn a z) /\ Turned (· = gm) w1.drew w2 := (by rw [hw2]; exact hput);have hso : (w1.setCell ⟨gm, nn * 2, none⟩ (.int .i64 (a : Int))).drew.heap[gm]? = some (.cells ((spC sp).setIfInBounds (nn * 2) (.int .i64 (a : Int))) 34 (0, 0)) := set_obj (w := w1) hg1.mat (nn * 2) (.int .i64 (a : Int));have m5 : (w1.setCell ⟨gm, nn * 2, none⟩ (.int .i64 (a : Int))).drew.cell? ⟨gm, nn * 2 + 1, none⟩ = some (.int .i64 (sp nn).2) := (obc hso (nn * 2 + 1)).trans (by rw [Array.getElem?_setIfInBounds_ne (by omega)]; exact hcm.2);have m6 := obj_frozen hso (nn * 2 + 1);obtain ⟨gk', ok', hkA', hgk1, hck1⟩ := HKC.out w2 hput.1.fin;obtain ⟨hgn1, hc91⟩ := HCC.out w2 hput.1.fin;rw [HKA.out] at hkA';cases hkA'
   have HC := lh (HIH.out w2 _ hput.1);have HT := lh (show Turned (GT F gm) w w2 from ((Turned.of_below (S := GT F gm) hb1).trans (Turned.of_below (S := GT F gm) (bD w1 1)) fun _ _ h => h).trans hput.2 fun _ _ h => .inr h);clear hg1 hb1 hck c9 c11 c7 c0 hf3 hput hg1d hcm hn10 hso;go_wp2_with fail;refine wp_region_heads (fun wx => wx.cell? ⟨gn, on + k * 13 + 7, none⟩ = some (.int .i64 (nn : Int))) [0, 1, 2, 3, 4, 5, 6, 7, 8] [9, 10, 11] [11] (by kernel_rfl) (by kernel_rfl) (by kernel_rfl) (fun c a d v w h => hq_body (P := Tryz.prog) (fn := Tryz.f54) c a d v w h) (by kernel_rfl) c7' ?_
   iterate 9
    refine heads_step (v := ?_) rfl (by rfl) (fun wx hSw => ?_) ?_;rotate_left
    ·go_simp;try with_reducible rfl
    simp only [Act.put, List.setIfInBounds_toArray]
   refine heads_end ?_
   iterate 2
    refine tail_step rfl (fun K hK => ?_);go_simp;refine hK _ _ ⟨fun _ => c7', ?_⟩;clear hK K;try simp only [Act.put, List.setIfInBounds_toArray, List.set_cons_zero, List.set_cons_succ]
   refine tail_step rfl (fun K hK => ?_);go_simp;refine hK _ _ ⟨fun h => by simp at h, ?_⟩;clear hK K;try simp only [Act.put, List.setIfInBounds_toArray, List.set_cons_zero, List.set_cons_succ]
   refine tail_end ?_;rw [<- hw2];clear hw2 m0 m1 m2 m3 m5 m6 c7';go_wp2_with fail;go_at_call 54;with_reducible refine HC.out.mono ?_
   rintro e w3 ⟨rfl, h1, h3⟩;have HP := lh (show GrpE S fb F L gm (putE sp (evT F.T F.b d.t a z)) w (.returned (.tuple #[])) w3 from ⟨rfl, by rw [HEV.out]; exact h1, gtT HT.out h3⟩);clear h1 h3;go_wp2_with fail;go_end0
   exact HP.out
 have h5b : (kd == 5) = false := (by simpa using h5);by_cases h4 : kd = 4
 ·have HC := lh (hRep S w L gm a z sp d _ hG hd (by rw [<- hkd]; exact h4) HNP haz hzL hrel);have h4b : (kd == 4) = true := (by simpa using h4);clear hd haz hzL hrel hA hcw hn hgrp hnn hE HNP hG hkd hgg hIH hRow hRep hfew hklt h2 h3 h4 h5;go_enter Tryz.func54, Tryz.ntmps54;go_wp2_with fail;go_at_call 86;with_reducible refine HC.out.mono ?_
  rintro e w1 ⟨rfl, h1, h3⟩;have HP := lh (aI h1 h3);clear h1 h3;go_wp2_with fail;go_end0
  exact ⟨rfl, HP.out.1, HP.out.2⟩
 ·exfalso;rw [<- hgg, grp_cnt] at hgrp;rw [<- hn.kind, <- hkd, dqf h5, Bool.false_and, Bool.or_false] at hgrp
  have hko : kidsOf d.t = [] := by
   unfold kidsOf kidsK;rw [<- hn.kind, <- hkd, if_neg (by omega), if_neg (by omega)]
  rw [hko] at hgrp;cases hgrp
end Go.Proofs.YtflkfleihlceeaaGreatDoor

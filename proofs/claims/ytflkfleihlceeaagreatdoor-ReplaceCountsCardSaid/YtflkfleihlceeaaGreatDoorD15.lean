import Derived.Test.YtflkfleihlceeaaGreatDoorD12
import Derived.Deep.CutBlock
/-
 The flows of a byte in a set, and of alternatives. Condition: the finder is in memory, the kids' longer ends are told.
-/
namespace Go.Proofs.YtflkfleihlceeaaGreatDoor
open Go.RowKit Go.Deep Go.Sort
set_option maxRecDepth 100000 in
set_option maxHeartbeats 600000 in
theorem flow_one {S : Nat -> Prop} {w : World} {fb L l : Nat} {F : FN} {x : Ix} (ha : Ask S fb F L l w x) {k b : Nat} {d : ND} (hd : F.nds[k]? = some d) (hk : d.x.kind = 1) {v : Value} (hb : BoxO S w b #[v] 131) (hv : OneV S w fb d.x.set v) (hFB : FromB fb F k) :
  Calls Tryz.prog 70 #[x.v, ptrV b] w (GotE S fb F L l (EndsR L (F.rel d.t) x.mem) w) := by
 obtain ⟨m, hm⟩ : ∃ m, m = x.ws.length := ⟨_, rfl⟩;have hxv : x.v = .agg #[.int .i64 (x.f : Int), .slice x.A m x.c] := (by unfold Ix.v; rw [hm]);rw [hxv];obtain ⟨W, hW, hbW, hsW, o5, o6⟩ := two_boxes w (.int .i64 (x.f : Int)) (.slice x.A m x.c) 68 (.int .i64 0) (.slice none 0 0) 68;have hmb : F.mb < w.heap.size := ha.fin.kept.lt;have HA := lh ha;have HAW := lh (ha.pr 2 hbW (by omega))
 have hsv : StepV (Pr S w 2) W fb F.nds k v := by
  have h1 : StepV (Pr S w 2) w fb F.nds k v := (StepV.one hd hk hv).fresh fun j hj => hj.imp_right fun h => h.1;exact h1.turned (T := fun _ => False) (Turned.of_below hbW) fun _ h => h.elim
 have HL := lh (after_is HAW.out hsv hd hFB);rw [hxv] at HL;have HO := lh (aI o5 (aI o6 (aI hbW (aI hsW hmb))));have c1 : W.cell? ⟨b, 0, none⟩ = some v := (by rw [obc (bobj hbW hb.1 (lts hb.1))]; rfl);clear hm hxv ha hmb hbW hsW hb hd hsv hFB hv hk;go_enter Tryz.func70, Tryz.ntmps70;go_upto_region 1 with fail;rw [<- hW];clear hW;obtain ⟨p0, p1, _, _, pl⟩ := box_all o5;clear o5 o6;go_wp2_with fail;go_at_call 71;refine HL.out.mono ?_;rintro e w1 ⟨y1, he, haf⟩;have hg1 := haf.got HAW.out.fin;obtain ⟨n1, hn1⟩ : ∃ n, n = y1.ws.length := ⟨_, rfl⟩;have hv1 : y1.v = .agg #[.int .i64 (y1.f : Int), .slice y1.A n1 y1.c] := (by unfold Ix.v; rw [hn1]);rw [hv1] at he;subst he;have q6 := hg1.tur.obj (k := w.heap.size + 1) HO.out.2.1 (by have := HO.out.2.2.2.2; omega);obtain ⟨r0, r1, rg0, rg1, rl⟩ := box_all q6;have HP := lh (got_ret (b := w.heap.size + 1) (n0 := 2) (R := EndsR L (F.rel d.t) x.mem) HA.out.fin (turBT HO.out.2.2.1 hg1.tur) (by omega) (by omega) hg1.fin hg1.at' hg1.is hg1.low q6 hn1);clear hg1 haf hn1 hv1 q6 c1 p0 p1;go_wp2_with fail;refine bodyPost_ret (v := .agg #[.int .i64 (y1.f : Int), .slice y1.A n1 y1.c]) (by simp [results, Tryz.results70, go_sem, r0, r1]) rfl HP.out
theorem three_boxes (w : World) (u v : Value) (T : TypeId) (u' v' : Value) (T' : TypeId) (u2 v2 : Value) (T2 : TypeId) : ∃ W, W = ((w.alloc (.cells #[u, v] T)).alloc (.cells #[u', v'] T')).alloc (.cells #[u2, v2] T2) /\ Below w.heap.size w W /\ W.heap.size = w.heap.size + 3 /\ W.heap[w.heap.size]? = some (.cells #[u, v] T (0, 0)) /\ W.heap[w.heap.size + 1]? = some (.cells #[u', v'] T' (0, 0)) /\ W.heap[w.heap.size + 2]? = some (.cells #[u2, v2] T2 (0, 0)) := by
 obtain ⟨V, hV, hb, hs, h1, h2⟩ := two_boxes w u v T u' v' T';refine ⟨_, rfl, ?_, ?_, ?_, ?_, ?_⟩
 ·rw [<- hV]; exact hb.alloc hb.size _
 ·rw [<- hV]; simp [hs]
 ·rw [<- hV]; exact old_obj' h1 _
 ·rw [<- hV]; exact old_obj' h2 _
 ·rw [<- hV, <- hs]; exact heap_alloc_new V _
structure EitM (S : Nat -> Prop) (fb : Nat) (F : FN) (L l : Nat) (x : Ix) (ts : List PN) (w : World) (i : Nat) (wr : World) (y : Ix) : Prop where
 fin : FindAt (Pr S w 3) wr fb F L
 at' : IxAt (Pr S w 3) F.N wr y
 is : EndsR L (fun a b => ((semL F.T F.b ts).take i).any fun r => r a b) x.mem y.mem
 low : y.low l
 o3 : wr.heap[w.heap.size]? = some (.cells #[.int .i64 (x.f : Int), .slice x.A x.ws.length x.c] 68 (0, 0))
 o4 : wr.heap[w.heap.size + 1]? = some (.cells #[.int .i64 0, .slice none 0 0] 68 (0, 0))
 o5 : wr.heap[w.heap.size + 2]? = some (.cells #[.int .i64 (y.f : Int), .slice y.A y.ws.length y.c] 68 (0, 0))
 tur : Turned (· = F.mb) w wr
 ix : IxAt (Pr S w 3) F.N wr x
theorem semL_len (T : List UInt8) (b : Bool) (ts : List PN) : (semL T b ts).length = ts.length := by rw [semL_eq]; simp
theorem unD {S : Nat -> Prop} {a b : World} (h : Turned S a.drew b) : Turned S a b := ⟨h.os, h.tape, h.output, h.size, h.block⟩
theorem EitM.ask {S : Nat -> Prop} {fb L l i : Nat} {F : FN} {x y : Ix} {ts : List PN} {w wr : World} (h : EitM S fb F L l x ts w i wr y) (ha : Ask S fb F L l w x) : Ask (Pr S w 3) fb F L l wr x := ⟨h.fin, h.ix, ha.inN, ha.low⟩
theorem EitM.go {S : Nat -> Prop} {fb L l i : Nat} {F : FN} {x y y1 y2 : Ix} {ts : List PN} {t : PN} {w wr w1 w2 w3 : World} (h : EitM S fb F L l x ts w i wr y) (ha : FindAt S w fb F L) (ht : ts[i]? = some t) (h0 : Turned (· = F.mb) wr w1) (g : FindAt (Pr S w 3) w1 fb F L) (g2 : EndsR L (F.rel t) x.mem y1.mem)
  (hm : MadeI (Pr S w 3) F.N l w1 w2 y2 (fun j => y.mem j || y1.mem j)) (hb : Below w1.heap.size w1 w2) (hp : w3.heap[w.heap.size + 2]? = some (.cells #[.int .i64 (y2.f : Int), .slice y2.A y2.ws.length y2.c] 68 (0, 0))) (ht3 : Turned (· = w.heap.size + 2) w2 w3) : EitM S fb F L l x ts w (i + 1) w3 y2 := by
 have hmb := ha.kept.lt;have hfb := lts ha.obj;have hs3 := lts h.o3;have hs4 := lts h.o4;have hsz := h0.size;have hsz2 := hb.size;have hS : ∀ k, k = w.heap.size + 2 -> Pr S w 3 k := fun k hk => .inr (by omega);have hSm : ∀ k, k = F.mb -> Pr S w 3 k := fun k hk => by rw [hk]; exact .inl ha.sm
 refine ⟨(g.below hb).go ht3 (fun k hk _ => ⟨hS k hk, by omega, by omega⟩) (.inl ha.sm) (.inl ha.sf) (fun k hk => .inl hk) (fun k hk => Nat.lt_of_lt_of_le ((g.below hb).old k hk) ht3.size), hm.at'.turned (turned_mono ht3 hS), ?_, hm.low, ?_, ?_, hp, ?_, ?_⟩
 ·have hs : (semL F.T F.b ts).take (i + 1) = (semL F.T F.b ts).take i ++ [F.rel t] := take_next (by rw [semL_at, ht]; rfl);rw [hs];exact (h.is.any_snoc g2).congr (fun _ => rfl) (fun j => (hm.is j).symm)
 ·exact ht3.obj (bobj hb (h0.obj h.o3 (by omega)) (by omega)) (by omega)
 ·exact ht3.obj (bobj hb (h0.obj h.o4 (by omega)) (by omega)) (by omega)
 ·exact turS (turB (turT h.tur h0) hb) ht3 (by omega)
 ·exact ((h.ix.turned (turned_mono h0 hSm)).stays hb).turned (turned_mono ht3 hS)
set_option maxRecDepth 100000 in
set_option maxHeartbeats 1000000 in
theorem flow_alt {S : Nat -> Prop} {w : World} {fb L l : Nat} {F : FN} {x : Ix} (ha : Ask S fb F L l w x) {k b1 b2 : Nat} {d : ND} (hd : F.nds[k]? = some d) (hk : d.x.kind = 3) (hb1 : BoxO S w b1 d.bare 106) (hb2 : BoxO S w b2 #[ptrV fb] 62) (hLC : ∀ q, q < k -> LongC fb F q) :
  Calls Tryz.prog 96 #[x.v, ptrV b1, ptrV b2] w (GotE S fb F L l (EndsR L (F.rel d.t) x.mem) w) := by
 have hn := ha.fin.dat k d hd
 have hR : F.rel d.t = fun i j => (semL F.T F.b (kidsOf d.t)).any fun r => r i j := by
  rw [ha.fin.rel hd, hk];rfl
 rw [hR];have hlen : d.ks.length = (semL F.T F.b (kidsOf d.t)).length := (by rw [semL_len, hn.len]);have hsm := ha.fin.small;obtain ⟨m, hm⟩ : ∃ m, m = x.ws.length := ⟨_, rfl⟩;have hxv : x.v = .agg #[.int .i64 (x.f : Int), .slice x.A m x.c] := (by unfold Ix.v; rw [hm]);rw [hxv];obtain ⟨W, hW, hbW, hsW, o3, o4, o5⟩ := three_boxes w (.int .i64 (x.f : Int)) (.slice x.A m x.c) 68 (.int .i64 0) (.slice none 0 0) 68 (.int .i64 0) (.slice none 0 0) 68;have hmb : F.mb < w.heap.size := ha.fin.kept.lt;have HA := lh ha;have HL := lh fun (q : Nat) (hq : q < k) (d' : ND) (hd' : F.nds[q]? = some d') (V : World) (h : Ask (Pr S w 3) fb F L l V x) => hLC q hq _ V L l x d' h hd';rw [hxv] at HL;have HKD := lh fun (i q : Nat) (h : d.ks[i]? = some q) => hn.kid i q h;have HKA := lh fun (V : World) (ht : Turned (· = F.mb) w V) => (ha.fin.mem k d hd).kids.turned (turned_mono ht fun j hj => (by rw [hj]; exact ha.fin.sm : S j));have c1 : W.cell? ⟨b1, 9, none⟩ = some (.slice d.kA d.ks.length d.kc) := (by rw [obc (bobj hbW hb1.1 (lts hb1.1))]; rfl);have hb1l := lts hb1.1;have hb2l := lts hb2.1;have hb2n : b2 ≠ F.mb := fun e => hb2.2 (by rw [e]; exact ha.fin.sm);have HB2 := lh fun (V : World) (ht : Turned (· = F.mb) w V) => (show V.cell? ⟨b2, 0, none⟩ = some (ptrV fb) by rw [obc (ht.obj hb2.1 hb2n)]; rfl)
 have HM0 := lh (show EitM S fb F L l x (kidsOf d.t) w 0 W ⟨0, [], none, 0⟩ from
  ⟨ha.fin.pr 3 hbW (by omega), ⟨.nil _ _ _, nlr _, (fun m h => by cases h), Nat.zero_le _⟩, (EndsR.any_nil L x.mem).congr (fun _ => rfl) (fun j => (mem_nil _ rfl j).symm), .inl rfl, by rw [<- hm]; exact o3, o4, o5, Turned.of_below hbW, (ha.at'.pr 3).stays hbW⟩)
 have HM := lh (aI hm hlen);have HSM := lh hsm;obtain ⟨nk, hnk⟩ : ∃ n, n = d.ks.length := ⟨_, rfl⟩;have HNK := lh hnk;rw [<- hnk] at c1;have HNB := lh (show nk <= 100000 from by rw [hnk]; exact hn.many);by_cases hn0 : nk = 0
 ·clear hm hxv ha hmb hbW hsW hb1 hb2 hd hLC hk hn hR hlen hsm o3 o4 o5 hb2n hnk hb1l hb2l;go_enter Tryz.func96, Tryz.ntmps96;go_upto_region 2 with fail;rw [<- hW];clear hW;go_upto_region 3 with fail;clear c1;go_loopw [7, 11] (fun _ iv wr => ∃ (i : Nat) (y : Ix), iv = .int .i64 (i : Int) /\ i <= nk /\ Hid (EitM S fb F L l x (kidsOf d.t) w i wr y)) (fun _ iv _ => nk - (intOf iv).toNat)
  case atStart => exact ⟨0, ⟨0, [], none, 0⟩, rfl, Nat.zero_le _, HM0⟩
  case round =>
   obtain ⟨i, y, rfl, hin, HY⟩ := hrel;obtain ⟨q0, q1, _, _, ql⟩ := box_all (HM.out.1 ▸ HY.out.o3);obtain ⟨n, hny⟩ : ∃ n, n = y.ws.length := ⟨_, rfl⟩;have hyv : y.v = .agg #[.int .i64 (y.f : Int), .slice y.A n y.c] := (by unfold Ix.v; rw [hny]);have h5 := HY.out.o5;rw [<- hny] at h5;obtain ⟨e0, e1, eg0, eg1, el⟩ := box_all h5;have he : i = nk := (by omega);subst he;have hiI : ¬ (i : Int) < (i : Int) := Int.lt_irrefl _;obtain ⟨r0, r1, rg0, rg1, rl⟩ := box_all HY.out.o4;have HP := lh (got_ret (b := w.heap.size + 1) (n0 := 3) (R := EndsR L (fun a b => (semL F.T F.b (kidsOf d.t)).any fun r => r a b) x.mem) HA.out.fin HY.out.tur (by omega) (by omega) HY.out.fin HY.out.at' (by have h := HY.out.is; rw [List.take_of_length_le (by rw [<- HM.out.2, <- HNK.out]; exact nlr _)] at h; exact h) HY.out.low HY.out.o4 hny);clear hny hyv h5 hin;go_wp2_with fail;refine bodyPost_ret (v := .agg #[.int .i64 (y.f : Int), .slice y.A n y.c]) (by simp [results, Tryz.results96, go_sem, r0, r1]) rfl HP.out
 ·have h0 : 0 < d.ks.length := (by omega);obtain ⟨g, o, hA, hgl, hgr⟩ := (HKA.out w (Turned.refl _ w)).cell (intsV_at (List.getElem?_eq_getElem h0))
  have HKC := lh fun (i q : Nat) (hq : d.ks[i]? = some q) (V : World) (ht : Turned (· = F.mb) w V) => (show V.cell? ⟨g, o + i, none⟩ = some (.int .i64 (q : Int)) by
   obtain ⟨g', o', h1, _, h2⟩ := (HKA.out V ht).cell (intsV_at hq);rw [hA] at h1;cases h1
   exact h2)
  rw [hA] at c1;clear hgr;clear h0 hgl hA hn0;clear hm hxv ha hmb hbW hsW hb1 hb2 hd hLC hk hn hR hlen hsm o3 o4 o5 hb2n hnk hb1l hb2l;go_enter Tryz.func96, Tryz.ntmps96;go_upto_region 2 with fail;rw [<- hW];clear hW;go_upto_region 3 with fail;clear c1;go_loopw [7, 11] (fun _ iv wr => ∃ (i : Nat) (y : Ix), iv = .int .i64 (i : Int) /\ i <= nk /\ Hid (EitM S fb F L l x (kidsOf d.t) w i wr y)) (fun _ iv _ => nk - (intOf iv).toNat)
  case atStart => exact ⟨0, ⟨0, [], none, 0⟩, rfl, Nat.zero_le _, HM0⟩
  case round =>
   obtain ⟨i, y, rfl, hin, HY⟩ := hrel;obtain ⟨q0, q1, _, _, ql⟩ := box_all (HM.out.1 ▸ HY.out.o3);obtain ⟨n, hny⟩ : ∃ n, n = y.ws.length := ⟨_, rfl⟩;have hyv : y.v = .agg #[.int .i64 (y.f : Int), .slice y.A n y.c] := (by unfold Ix.v; rw [hny]);have h5 := HY.out.o5;rw [<- hny] at h5;obtain ⟨e0, e1, eg0, eg1, el⟩ := box_all h5;by_cases hlt : i < nk
   ·obtain ⟨q, hq⟩ : ∃ q, d.ks[i]? = some q := ⟨d.ks[i]'(by rw [<- HNK.out]; exact hlt), List.getElem?_eq_getElem _⟩;obtain ⟨hqk, d', hd', ht⟩ := HKD.out i q hq;have hc := HKC.out i q hq wr HY.out.tur;have hbx := HB2.out wr HY.out.tur;have hiI : (i : Int) < (nk : Int) := (by omega);have hi0 : (0 : Int) <= (i : Int) := (by omega);have hwi : wrap64 ((i : Int) + 1) = (i : Int) + 1 := IntWalk.wrap64_in _ (by have := HNB.out; omega);have HQ := lh (aI hqk (aI hd' ht));have HLQ := lh (HL.out q hqk d' hd' _ ((HY.out.ask HA.out).below (Below.refl wr.heap.size wr).drew));have HT := lh (aI hny (aI hyv (aI h5 hlt)));clear hqk hd' ht hq hny hyv h5 hlt;have hib : i < 1099511627776 := by have := HNB.out; omega
    go_upto_block 1 with fail
    go_cut [7] from 13 to 20 (fun t7 wx => t7 = .int .i64 (q : Int) /\ ∃ y2 : Ix, EitM S fb F L l x (kidsOf d.t) w (i + 1) wx y2)
    case first =>
     go_upto_region 5 with fail
     go_region_with (first
      | (go_at_call 50
         refine HLQ.out.mono ?_;rintro e w1 ⟨y1, he, hg1⟩;obtain ⟨n1, hn1⟩ : ∃ n, n = y1.ws.length := ⟨_, rfl⟩;have hv1 : y1.v = .agg #[.int .i64 (y1.f : Int), .slice y1.A n1 y1.c] := (by unfold Ix.v; rw [hn1]);rw [hv1] at he;subst he;have p5 := hg1.tur.obj HT.out.2.2.1 (by have := HA.out.fin.kept.lt; omega);obtain ⟨e0', e1', _, _, el'⟩ := box_all p5;have HJ := lh (join_ix (S := Pr S w 3) (l := l) (a := y) (b := y1) (w := w1) (fun k hk => hg1.fin.old k hk) (by have := HSM.out; omega) (HY.out.at'.turned (turned_mono (unD hg1.tur) fun k hk => by rw [hk]; exact .inl HA.out.fin.sm)) hg1.at' HY.out.low hg1.low);rw [hv1, HT.out.2.1] at HJ;have HG1 := lh (aI hg1 p5)
         clear hg1 hn1 hv1 p5)
      | (go_at_call 49
         refine HJ.out.mono ?_;rintro e w2 ⟨y2, he, hm2, hb2⟩;obtain ⟨n2, hn2⟩ : ∃ n, n = y2.ws.length := ⟨_, rfl⟩;have hv2 : y2.v = .agg #[.int .i64 (y2.f : Int), .slice y2.A n2 y2.c] := (by unfold Ix.v; rw [hn2]);rw [hv2] at he;subst he;have p5 := bobj hb2 HG1.out.2 (lts HG1.out.2);obtain ⟨s0, s1, sg0, sg1, sl⟩ := box_all p5;have HG2 := lh (aI hm2 (aI hb2 (aI p5 hn2)))
         clear hm2 hb2 hn2 hv2 p5))
     all_goals
      obtain ⟨w3, hw3⟩ : ∃ W, W = (w2.setCell ⟨w.heap.size + 1 + 1, 0, none⟩ (.int .i64 (y2.f : Int))).setCell ⟨w.heap.size + 1 + 1, 1, none⟩ (.slice y2.A n2 y2.c) := ⟨_, rfl⟩;rw [<- hw3];obtain ⟨hp1, hp2⟩ := put_two (b := w.heap.size + 1 + 1) (u' := .int .i64 (y2.f : Int)) (v' := .slice y2.A n2 y2.c) HG2.out.2.2.1;rw [<- hw3, HG2.out.2.2.2] at hp1;rw [<- hw3] at hp2;have HG := lh (HY.out.go HA.out.fin HQ.out.2.2 (unD HG1.out.1.tur) HG1.out.1.fin HG1.out.1.is HG2.out.1 HG2.out.2.1 hp1 hp2);clear hw3 hp1 hp2;go_wp2_with fail;go_meet
      case rel => exact ⟨rfl, y2, HG.out⟩
    obtain ⟨rfl, y2, hY2⟩ := hcut;have HY2 := lh hY2;clear hY2 e0 e1 eg0 eg1 el q0 q1 ql hc hbx;go_wp2_with fail;go_roundw
    case rel => exact ⟨i + 1, y2, by go_num, HT.out.2.2.2, HY2⟩
    case measure => simp only [intOf]; exact bet_meas HT.out.2.2.2
   ·have he : i = nk := (by omega);subst he;have hiI : ¬ (i : Int) < (i : Int) := Int.lt_irrefl _;obtain ⟨r0, r1, rg0, rg1, rl⟩ := box_all HY.out.o4;have HP := lh (got_ret (b := w.heap.size + 1) (n0 := 3) (R := EndsR L (fun a b => (semL F.T F.b (kidsOf d.t)).any fun r => r a b) x.mem) HA.out.fin HY.out.tur (by omega) (by omega) HY.out.fin HY.out.at' (by have h := HY.out.is; rw [List.take_of_length_le (by rw [<- HM.out.2, <- HNK.out]; exact nlr _)] at h; exact h) HY.out.low HY.out.o4 hny);clear hny hyv h5 hlt hin;go_wp2_with fail;refine bodyPost_ret (v := .agg #[.int .i64 (y.f : Int), .slice y.A n y.c]) (by simp [results, Tryz.results96, go_sem, r0, r1]) rfl HP.out
end Go.Proofs.YtflkfleihlceeaaGreatDoor

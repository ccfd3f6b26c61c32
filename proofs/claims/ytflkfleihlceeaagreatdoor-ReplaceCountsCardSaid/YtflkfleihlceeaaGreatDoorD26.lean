import Derived.Test.YtflkfleihlceeaaGreatDoorD25
import Derived.Test.YtflkfleihlceeaaGreatDoorD18
/-
 repeatGroups. Condition: what the kids' groups answer.
-/
namespace Go.Proofs.YtflkfleihlceeaaGreatDoor
open Go.RowKit Go.Deep Go.Sort
structure RepW (S : Nat -> Prop) (fb : Nat) (F : FN) (L gm : Nat) (K : Rel) (ev : EvF) (lo hi : Int) (a z : Nat) (sp : Sp) (w0 : World) (r p : Nat) (w wr : World) : Prop where
 grp : ∃ sq n, GrpP S fb F L gm wr sq /\ putE sp (repE K ev (z - a) lo hi a z) = putE sq (repE K ev n (lo - (r : Int)) (hiAt hi r) p z) /\ z - p <= n
 tur : Turned (GT F gm) w0 wr
 tu2 : Turned (GT F gm) w wr
 ch : chainB K r a p = true
 want : Want K lo hi z r p
theorem Want.le {K : Rel} {lo hi : Int} {z r p : Nat} (h : Want K lo hi z r p) : p <= z := by
 obtain ⟨s, h1, _⟩ := h;have := chain_le h1;omega
theorem Want.zero {K : Rel} {lo hi : Int} {a z : Nat} (h : repB K lo hi a z = true) : Want K lo hi z 0 a := by
 obtain ⟨s, h1, h2, h3⟩ := repB_iff.1 h;refine ⟨s, h1, ?_, ?_⟩
 ·rw [Nat.zero_add]; exact h2
 ·rw [Nat.zero_add]; exact h3
theorem rep_far {K : Rel} {lo hi : Int} {a z r p L : Nat} {X Y : Ix} {q : Int} (h : RGood K lo hi a z (r + 1) Y.mem) (hp : chainB K r a p = true) (hw : Want K lo hi z r p) (hpz : p < z) (hX : EndsR L K (onlyB p) X.mem) (hzL : z <= L) (hl : LastIs X Y q) :
  ∃ e : Nat, q = (e : Int) /\ p < e /\ K p e = true /\ e <= z /\ p + top (fun d => decide (0 < d) && K p (p + d) && repB K (lo - r - 1) (decH (hiAt hi r)) (p + d) z) (z - p) = e /\ chainB K (r + 1) a e = true /\ Want K lo hi z (r + 1) e := by
 rcases hl with ⟨_, hn⟩ | ⟨e, rfl, h1, h2, h3⟩
 ·obtain ⟨e, e0, e1, e2⟩ := rep_ex h hp hw hpz;have := hn e ((hX.one (Nat.le_trans (h.1 e e2) hzL)).2 ⟨e0, e1⟩);rw [e2] at this;cases this
 ·have hez := h.1 e h2;obtain ⟨h4, h5⟩ := (hX.one (Nat.le_trans hez hzL)).1 h1
  obtain ⟨t1, t2, t3⟩ := rep_top h hp hw hpz h4 h5 h2 fun j hj hKj => by
   cases hYj : Y.mem j with
   | false => rfl
   | true =>
    have := h3 j hj ((hX.one (Nat.le_trans (h.1 j hYj) hzL)).2 ⟨by omega, hKj⟩);rw [hYj] at this;cases this
  exact ⟨e, rfl, h4, h5, hez, t1, t2, t3⟩
theorem RepW.go {S : Nat -> Prop} {fb L gm a z r p e : Nat} {F : FN} {K : Rel} {ev : EvF} {lo hi : Int} {sp sq : Sp} {w0 w wr w' : World} {n : Nat} (h : RepW S fb F L gm K ev lo hi a z sp w0 r p w wr) (hev : putE sp (repE K ev (z - a) lo hi a z) = putE sq (repE K ev n (lo - (r : Int)) (hiAt hi r) p z)) (hn : z - p <= n) (hpz : p < z)
  (ht : p + top (fun d => decide (0 < d) && K p (p + d) && repB K (lo - r - 1) (decH (hiAt hi r)) (p + d) z) (z - p) = e) (hpe : p < e) (hc : chainB K (r + 1) a e = true) (hw : Want K lo hi z (r + 1) e) (hG : GrpP S fb F L gm w' (putE sq (ev p e))) (ht1 : Turned (GT F gm) w0 w') (ht2 : Turned (GT F gm) w w') : RepW S fb F L gm K ev lo hi a z sp w0 (r + 1) e w w' := by
 obtain ⟨m, rfl⟩ : ∃ m, n = m + 1 := ⟨n - 1, by omega⟩;obtain ⟨e1, e2⟩ := rep_next (K := K) (ev := ev) (lo := lo) (hi := hi) (h.want.more hpz) hpz hn ht hpe;exact ⟨⟨_, m, hG, by rw [hev, e1, putE_append], e2⟩, ht1, ht2, hc, hw⟩
set_option maxRecDepth 100000 in
set_option maxHeartbeats 2000000 in
theorem rep_groups {fb : Nat} {F : FN} {k : Nat} (hIH : ∀ q, q < k -> GrpC fb F q) : SubC 86 4 fb F k := by
 intro S w L gm a z sp d v hG hd hk hv haz hzL hrel;obtain ⟨q, d', hq, hqk, hd', hhd, hkids⟩ := hG.fin.kid0 hd (.inl hk);have hgoals := repeatGoals_is hG.fin hd hv hq hd' haz hzL;obtain ⟨gn, on, hA, hve, hcell⟩ := ndp_cells hG.fin hd hv;subst hve;have hn := hG.fin.dat k d hd
 have hR : F.rel d.t = repB (F.rel d'.t) d.x.lo d.x.hi := by
  rw [hG.fin.rel hd, hk, <- hhd];rfl
 have hE : evT F.T F.b d.t a z = repE (F.rel d'.t) (evT F.T F.b d'.t) (z - a) d.x.lo d.x.hi a z := by
  rw [ev_cnt, <- hn.kind, <- hn.lo, <- hn.hi, hk, hkids];simp only [semL, evL];rfl
 rw [hR] at hrel;have hzN : z <= F.N := Nat.le_trans hzL hG.fin.lim;have hsm := hG.fin.small;obtain ⟨gk, ok, hkA, _, _⟩ := (hG.fin.mem k d hd).kids.cell (intsV_at hq);have hnk0 : 0 < d.ks.length := (List.getElem?_eq_some_iff.1 hq).1
 have HC := lh fun (V : World) (hV : FindAt S V fb F L) => (show gn < V.heap.size /\ V.cell? ⟨gk, ok, none⟩ = some (.int .i64 (q : Int)) /\ ∀ (j : Nat) (u : Value), d.cells[j]? = some u -> V.cell? ⟨gn, on + k * 13 + j, none⟩ = some u from by
  obtain ⟨g', o', e, _, hc⟩ := (hV.mem k d hd).kids.cell (intsV_at hq);rw [hkA] at e;cases e
  rw [Nat.add_zero] at hc
  exact ⟨(hcell V hV).1, hc, (hcell V hV).2⟩)
 have HO := lh fun (i : Nat) (hi : i <= F.N) (V : World) => only_is i F.N hi (by omega) V;have HEN := lh fun (V : World) (l : Nat) (x : Ix) (ha : Ask S fb F L l V x) => long_all q S V L l x d' ha hd';have HIH := lh fun (V : World) (sq : Sp) (p e : Nat) (hV : GrpP S fb F L gm V sq) (h1 : p <= e) (h2 : e <= L) (hr : F.rel d'.t p e = true) => hIH q hqk S V L gm p e sq d' hV hd' h1 h2 hr;have HP := lh (aI hrel (aI hE (aI hzN (aI hsm (aI haz hzL)))));obtain ⟨K, hK⟩ : ∃ K, K = F.rel d'.t := ⟨_, rfl⟩;obtain ⟨ev, hev⟩ : ∃ ev, ev = evT F.T F.b d'.t := ⟨_, rfl⟩;rw [<- hK] at hgoals HEN HIH HP;rw [<- hev] at HP HIH;have HFIT := lh (show FitR F.N K by rw [hK]; exact F.fit d'.t);obtain ⟨hi, hhi⟩ : ∃ hi, hi = d.x.hi := ⟨_, rfl⟩;obtain ⟨lo, hlo⟩ : ∃ lo, lo = d.x.lo := ⟨_, rfl⟩;rw [<- hhi, <- hlo] at hgoals HP;have HHI := lh (aI hhi hlo);have HG := lh hG;have HGO := lh hgoals;obtain ⟨nk, hnk⟩ : ∃ n, n = d.ks.length := ⟨_, rfl⟩;rw [<- hnk] at hnk0;have hnkI : (0 : Int) < (nk : Int) := (by omega);obtain ⟨hgl, ck, hcw⟩ := HC.out w hG.fin;have c9 : w.cell? ⟨gn, on + k * 13 + 9, none⟩ = some (.slice (some ⟨gk, ok, none⟩) nk d.kc) := (by rw [hnk, <- hkA]; exact hcw 9 _ rfl)
 have HW0 := lh (show RepW S fb F L gm K ev lo hi a z sp w 0 a w w from
  ⟨⟨sp, z - a, hG, by
   have e1 : lo - ((0 : Nat) : Int) = lo := (by omega);have e2 : hiAt hi 0 = hi := (by unfold hiAt; split <;> omega)
   rw [e1, e2], nlr _⟩, Turned.refl _ _, Turned.refl _ _, chain_zero.2 rfl, Want.zero HP.out.1⟩)
 clear hG hd hk hv haz hzL hrel hn hR hE hzN hsm hIH hA hcell hgoals hq hqk hd' hhd hkids hK hev hhi hlo hnk hcw hkA;go_enter Tryz.func86, Tryz.ntmps86;obtain ⟨hab, hhab⟩ : ∃ b, b = decide (a < z) := ⟨_, rfl⟩;have hhab' : decide ((a : Int) < (z : Int)) = hab := (by rw [hhab]; exact decide_eq_decide.2 Int.ofNat_lt);have hhab2 := hhab.symm;have HAB := lh hhab;clear hhab
 go_upto_if 22 with fail
 go_cut [2, 11, 12, 13] from 23 to 53 (fun t2 t11 _ _ wx => ∃ r : Nat, t2 = .int .i64 (z : Int) /\ t11 = .int .i64 (r : Int) /\ Hid (RepW S fb F L gm K ev lo hi a z sp w r z w wx))
 case first =>
  by_cases haz : a < z
  ·have hb : hab = true := (by rw [HAB.out]; exact dqt haz);subst hb;clear haz c9 ck hgl hhab' hhab2;go_wp2_with fail;go_at_call 106;with_reducible refine HGO.out.mono ?_
   rintro e w1 ⟨G, c, xs, last, rfl, hg3, hxl, hlz, hpos, hgood⟩;have HG3 := lh (aI hg3 (aI hxl (aI hlz (aI hpos hgood))))
   have HW1 := lh (show RepW S fb F L gm K ev lo hi a z sp w1 0 a w w1 from by
    obtain ⟨sq, n, h1, h2, h3⟩ := HW0.out.grp
    exact ⟨⟨sq, n, h1.mono hg3.fin hg3.tur, h2, h3⟩, Turned.refl _ _, gtM hg3.tur, HW0.out.ch, HW0.out.want⟩)
   obtain ⟨n1, hn1⟩ : ∃ n1, n1 = last + 1 := ⟨_, rfl⟩;rw [<- hn1];have HN1 := lh hn1;clear hg3 hxl hlz hpos hgood hn1;go_upto_region 3 with fail;go_loopw [2, 11, 13] (fun pv rv _ wr => ∃ (r p : Nat), rv = .int .i64 (r : Int) /\ pv = .int .i64 (p : Int) /\ Hid (RepW S fb F L gm K ev lo hi a z sp w1 r p w wr)) (fun pv _ _ _ => z - (intOf pv).toNat)
   case atStart => exact ⟨0, a, rfl, rfl, HW1⟩
   case round =>
    obtain ⟨r, p, rfl, rfl, HY⟩ := hrel;by_cases hpz : p < z
    ·have hrz : a + r <= p := chain_le HY.out.ch;obtain ⟨sq, n, hgp, hev, hnz⟩ := HY.out.grp;have hzN' := HP.out.2.2.1;have hsm' := HP.out.2.2.2.1;have hpN : p <= F.N := (by omega);have hTS : ∀ j, GT F gm j -> S j := fun j hj => hj.elim (fun e => by rw [e]; exact HG.out.fin.sm) fun e => by rw [e]; exact HG.out.sg
     obtain ⟨r1, hr1⟩ : ∃ r1, r1 = r + 1 := ⟨_, rfl⟩;obtain ⟨gi, hgi⟩ : ∃ gi, gi = min r1 last := ⟨_, rfl⟩;have hgl2 : gi < xs.length := (by rw [HG3.out.2.1]; omega);obtain ⟨x1, hx1⟩ : ∃ x, xs[gi]? = some x := ⟨xs[gi]'hgl2, List.getElem?_eq_getElem _⟩;obtain ⟨gg, og, hGg, hggl, m0, m1⟩ := ixs_cell (HG3.out.1.go HY.out.tur hTS).1 hx1;obtain ⟨nx, hnx⟩ : ∃ n, n = x1.ws.length := ⟨_, rfl⟩
     have HSP := lh fun (V : World) (ht : Turned (GT F gm) w1 V) => (show V.cell? ⟨gg, og + gi * 2, none⟩ = some (.int .i64 (x1.f : Int)) /\ V.cell? ⟨gg, og + gi * 2 + 1, none⟩ = some (.slice x1.A nx x1.c) by
      obtain ⟨g', o', hG', _, a0, a1⟩ := ixs_cell (HG3.out.1.go ht hTS).1 hx1;rw [hGg] at hG';cases hG'
      rw [hnx]
      exact ⟨a0, a1⟩)
     have HOI := lh (HO.out p hpN wr.drew);have HD := lh (HSP.out wr.drew (gtB HY.out.tur (bD wr 1)))
     have hgo : RGood K lo hi a z r1 x1.mem := HG3.out.2.2.2.2 r1 x1 (by
      by_cases hh : hi < 0
      ·exact .inl hh
      ·right;have h1 := HG3.out.2.2.2.1 (Int.not_lt.1 hh);have h2 := HY.out.want.more hpz
       omega) (by rw [<- hgi]; exact hx1)
     have HQ := lh (aI hgp (aI hev (aI hnz (aI hpN (aI hpz (aI hx1 hgo))))));have HTS := lh hTS;have HN2 := lh (aI hnx hr1);have hpzI : (p : Int) < (z : Int) := (by omega);have hl1 : last <= 100000 := (by have := HG3.out.2.2.1; omega);have hn1' : n1 = last + 1 := HN1.out;have HWR := lh (show IntKind.i64.wrap ((r : Int) + 1) = (r1 : Int) by rw [hr1]; exact IntWalk.i64_in _ (by omega));have hwr := HWR.out;have HWL := lh (show IntKind.i64.wrap ((n1 : Int) - 1) = (last : Int) by rw [hn1', IntWalk.i64_in _ (by omega)]; omega);have HMN := lh (show min (r1 : Int) (last : Int) = (gi : Int) by rw [hgi]; omega);have HGB := lh (show gi < n1 /\ gi < 1099511627776 by omega);subst hGg;clear hrz hgp hev hnz hzN' hsm' hpN hTS hr1 hgi hgl2 hx1 m0 m1 hnx hgo hpz hl1 hn1';go_upto_region 5 with fail;clear hwr hpzI;have hwl := HWL.out;have hmn := HMN.out;have i1 : gi < n1 := HGB.out.1;have i2 : gi < 1099511627776 := HGB.out.2;have i3 : (gi : Int) < (n1 : Int) := (by omega);have i4 : (0 : Int) <= (gi : Int) := (by omega);refine wp_region_heads (fun wx => wx.cell? ⟨gg, og + gi * 2, none⟩ = some (.int .i64 (x1.f : Int)) /\ wx.cell? ⟨gg, og + gi * 2 + 1, none⟩ = some (.slice x1.A nx x1.c)) [0, 1, 2, 5, 6, 7, 8, 9, 10, 11, 12] [3, 4, 13, 14] [13, 14] (by kernel_rfl) (by kernel_rfl) (by kernel_rfl) (fun c a d v w h => hq_body (P := Tryz.prog) (fn := Tryz.f86) c a d v w h) (by kernel_rfl) HD.out ?_
     iterate 11
      refine heads_step (v := ?_) rfl (by rfl) (fun wx hSw => ?_) ?_;rotate_left
      ·obtain ⟨u0, u1⟩ := hSw;go_simp;try with_reducible rfl
      simp only [Act.put, List.setIfInBounds_toArray]
     refine heads_end ?_;clear hwl hmn;refine tail_step rfl (fun K' hK => ?_);go_simp;refine HOI.out.mono ?_;rintro e wA ⟨xi, he, hmi, hbA⟩;obtain ⟨ni, hni⟩ : ∃ n, n = xi.ws.length := ⟨_, rfl⟩;have hvi : xi.v = .agg #[.int .i64 (xi.f : Int), .slice xi.A ni xi.c] := (by unfold Ix.v; rw [hni]);rw [hvi] at he;subst he;have hb0A := (bD wr 1).trans hbA;have hxi : xi.mem = onlyB p := funext fun j => by rw [hmi.is j]; rfl
     have hfA := HQ.out.1.fin.below hb0A;have hea := HEN.out wA p xi ⟨hfA, hmi.at'.weaken fun j hj => HQ.out.1.fin.old j hj, fun j hj => by rw [hxi, onlyB_iff] at hj; rw [hj]; exact HQ.out.2.2.2.1, hmi.low⟩;rw [hvi] at hea;have HEA := lh hea;have HA := lh (aI hb0A hxi);have hSA := HSP.out wA (gtB HY.out.tur hb0A);refine hK _ _ ⟨fun _ => hSA, ?_⟩;clear hK K' hmi hbA hni hvi hb0A hxi hfA hea hSA;try simp only [Act.put, List.setIfInBounds_toArray, List.set_cons_zero, List.set_cons_succ]
     refine tail_step rfl (fun K' hK => ?_);go_simp;with_reducible refine HEA.out.mono ?_
     rintro e wB ⟨X, he, hg⟩;obtain ⟨nX, hnX⟩ : ∃ n, n = X.ws.length := ⟨_, rfl⟩;have hvX : X.v = .agg #[.int .i64 (X.f : Int), .slice X.A nX X.c] := (by unfold Ix.v; rw [hnX]);rw [hvX] at he;subst he;have htB : Turned (· = F.mb) wr wB := turBT HA.out.1 hg.tur;have ht1B : Turned (GT F gm) w1 wB := gtT HY.out.tur (gtM htB);have hSB := HSP.out wB ht1B;have hlast := last_ix (w := wB) hg.at' ((HG3.out.1.go ht1B HTS.out).2 x1 (List.mem_of_getElem? HQ.out.2.2.2.2.2.1)) (by have := HP.out.2.2.2.1; omega);rw [hvX] at hlast;unfold Ix.v at hlast;rw [<- HN2.out.1] at hlast;have HL := lh hlast;have hX := hg.is;rw [HA.out.2] at hX;have HB := lh (aI htB (aI hg.fin (aI hX ht1B)));refine hK _ _ ⟨fun _ => hSB, ?_⟩;clear hK K' hg hnX hvX htB hSB hlast hX ht1B;try simp only [Act.put, List.setIfInBounds_toArray, List.set_cons_zero, List.set_cons_succ]
     refine tail_step rfl (fun K' hK => ?_);go_simp;refine HL.out.mono ?_;rintro e wC ⟨q2, rfl, hl2, hbC⟩;have hgo1 := HQ.out.2.2.2.2.2.2;rw [HN2.out.2] at hgo1;obtain ⟨en, e1, e2, e3, e4, e5, e6, e7⟩ := rep_far hgo1 HY.out.ch HY.out.want HQ.out.2.2.2.2.1 HB.out.2.2.1 HP.out.2.2.2.2.2 hl2;subst e1;have hgpC := (HQ.out.1.mono HB.out.2.1 HB.out.1).below hbC;have HGC := lh (HIH.out wC sq p en hgpC (Nat.le_of_lt e2) (Nat.le_trans e4 HP.out.2.2.2.2.2) e3);have HE5 := lh (aI e2 (aI e5 (aI e6 (aI e7 (aI (gtB HB.out.2.2.2 hbC) (gtB (gtT HY.out.tu2 (gtM (gm := gm) HB.out.1)) hbC))))));have HEZ := lh e4;refine hK _ _ ⟨fun h => by simp at h, ?_⟩;clear hK K' hl2 hbC hgo1 e2 e3 e4 e5 e6 e7 hgpC;try simp only [Act.put, List.setIfInBounds_toArray, List.set_cons_zero, List.set_cons_succ]
     refine tail_step rfl (fun K' hK => ?_);go_simp;refine hK _ _ ⟨fun h => by simp at h, ?_⟩;clear hK K';try simp only [Act.put, List.setIfInBounds_toArray, List.set_cons_zero, List.set_cons_succ]
     refine tail_end ?_;go_wp2_with fail;go_at_call 54;with_reducible refine HGC.out.mono ?_
     rintro e wD ⟨rfl, hgD, htD⟩;have hgoR := HY.out.go HQ.out.2.1 HQ.out.2.2.1 HQ.out.2.2.2.2.1 HE5.out.2.1 HE5.out.1 HE5.out.2.2.1 HE5.out.2.2.2.1 hgD (gtT HE5.out.2.2.2.2.1 htD) (gtT HE5.out.2.2.2.2.2 htD);rw [<- HN2.out.2] at hgoR;have HW := lh hgoR;clear hgD htD hgoR;go_wp2_with fail;go_roundw
     case rel => exact ⟨r1, en, rfl, rfl, HW⟩
     case measure =>
      have := HE5.out.1;have := HEZ.out;show z - (en : Int).toNat < z - (p : Int).toNat;omega
    ·have hp : p = z := (by have := HY.out.want.le; omega);subst hp;have hpI : ¬ (p : Int) < (p : Int) := Int.lt_irrefl _;have HR := lh (show RepW S fb F L gm K ev lo hi a p sp w r p w wr from ⟨HY.out.grp, HY.out.tu2, HY.out.tu2, HY.out.ch, HY.out.want⟩);clear hpz;go_wp2_with fail;go_meet
     case rel => exact ⟨r, rfl, rfl, HR⟩
  ·have ha : a = z := (by have := HP.out.2.2.2.2.1; omega);have hb : hab = false := (by rw [HAB.out]; exact dqf haz);subst hb;subst ha;clear haz c9 ck hgl hhab' hhab2;go_wp2_with fail;go_meet
   case rel => exact ⟨0, rfl, rfl, HW0⟩
 obtain ⟨r, rfl, rfl, HY⟩ := hcut;clear hhab' hhab2;obtain ⟨sq, n, hgp, hev, hnz⟩ := HY.out.grp;rw [repE_end] at hev;obtain ⟨hgl1, _, hcw⟩ := HC.out wc hgp.fin;have c5 := hcw 5 _ rfl;rw [<- HHI.out.2] at c5
 have hz0 : lo <= (r : Int) \/ K z z = true := by
  obtain ⟨s, h1, _, h3⟩ := HY.out.want;have := chain_le h1;have : s = 0 := (by omega);subst this;simpa using h3
 by_cases hlo : (r : Int) < lo
 ·have hlob : decide ((r : Int) < lo) = true := dqt hlo;rw [if_pos (by omega)] at hev;have HGC := lh (HIH.out wc sq z z hgp (nlr _) HP.out.2.2.2.2.2 (hz0.resolve_left (by omega)));have HE2 := lh hev;clear hev hcw hgp hnz hz0 hlo c9 ck hgl;go_wp2_with fail;go_at_call 54;with_reducible refine HGC.out.mono ?_
  rintro e wD ⟨rfl, hgD, htD⟩
  have HPP := lh (show GrpE S fb F L gm (putE sp (evT F.T F.b d.t a z)) w (.returned (.tuple #[])) wD from
   ⟨rfl, by rw [HP.out.2.1, HE2.out]; exact hgD, gtT HY.out.tu2 htD⟩)
  clear hgD htD;go_wp2_with fail;go_end0
  exact HPP.out
 ·have hlob : decide ((r : Int) < lo) = false := dqf hlo;rw [if_neg (by omega)] at hev
  have HPP := lh (show GrpE S fb F L gm (putE sp (evT F.T F.b d.t a z)) w (.returned (.tuple #[])) wc from
   ⟨rfl, by rw [HP.out.2.1, hev]; exact hgp, HY.out.tu2⟩)
  clear hev hcw hgp hnz hz0 hlo c9 ck hgl;go_wp2_with fail;go_end0
  exact HPP.out
open Go.RowKit Go.Deep Go.Sort
theorem FlowV.refn {S : Nat -> Prop} {w : World} {fb : Nat} {nds : List ND} {t : PN} {x : NV} {kA : Option Addr} {kc : Nat} {ks : List Nat} {e : Nat} {g : Bool} {fn fn' : Value} {v : Value} (h : FlowV S w fb nds ⟨t, x, kA, kc, ks, e, g, fn⟩ v) : FlowV S w fb nds ⟨t, x, kA, kc, ks, e, g, fn'⟩ v := by
 cases h with
 | one hk hb hv => exact .one hk hb hv
 | row hk hb1 hb2 => exact .row hk hb1 hb2
 | alt hk hb1 hb2 => exact .alt hk hb1 hb2
 | grp hk hb1 hb2 => exact .grp hk hb1 hb2
 | spr hk hh hq hd hs hb1 hb2 => exact .spr hk hh hq hd hs hb1 hb2
 | rep hk hq hd hb1 hb2 hb3 hv hb4 hb5 => exact .rep hk hq hd hb1 hb2 hb3 hv hb4 hb5
 | oth h1 h2 h3 h4 h5 => exact .oth h1 h2 h3 h4 h5
theorem kid_cells {S : Nat -> Prop} {w : World} {A0 : Option Addr} {ys : List NV} (h : RawOff S w A0 (nsV ys)) {i : Nat} {y : NV} (hy : ys[i]? = some y) : ∃ g o, A0 = some ⟨g, o, none⟩ /\ g < w.heap.size /\ ∀ (j : Nat) (v : Value), y.cells[j]? = some v -> w.cell? ⟨g, o + i * 9 + j, none⟩ = some v := by
 have h0 := nsV_at i y hy 0 _ rfl;rcases h with h | ⟨g, o, e, hn, hr⟩
 ·rw [h] at h0;simp at h0
 ·exact ⟨g, o, e, World.block_lt_of_cell? w _ (hr _ _ h0), fun j v hv => by rw [Nat.add_assoc]; exact hr _ _ (nsV_at i y hy j v hv)⟩
set_option maxRecDepth 100000 in
set_option maxHeartbeats 2000000 in
theorem number_step {t : PN} (hIH : ∀ (i : Nat) (tk : PN), (kidsOf t)[i]? = some tk -> NumC tk) : NumC t := by
 intro S w fb F L x hN hP hfew;have hxf := isP_fields hP;have hfbl := lts hN.obj;have hmbl := lts hN.map
 have hS' : ∀ k, (Pr S w 2 k \/ F.own k) -> k < w.heap.size + 2 := fun k hk => by
  rcases hk with (hk | hk) | hk
  ·have := hN.old k hk; omega
  ·omega
  ·have := own_lt hN.row hk; omega
 have hP2 : IsP (fun k => Pr S w 2 k \/ F.own k) w t x := hP.fresh' fun k hk => by
  rcases hk with (hk | hk) | hk
  ·exact .inl (.inl hk)
  ·exact .inr hk.1
  ·exact .inl (.inr hk)
 obtain ⟨m, hm⟩ : ∃ m, m = (kidsOf t).length := ⟨_, rfl⟩;have hcnt := nod_cnt t;have hlen := nodL_len (kidsOf t);have hm5 : m <= 100000 := (by omega);have HIH := lh hIH;have HN := lh hN;have HF := lh (aI hfew (aI hcnt (aI hm hxf)));obtain ⟨W, hW⟩ : ∃ W, W = (w.alloc (.cells #[.int .i64 x.kind, .int .u64 (x.set 0), .int .u64 (x.set 1), .int .u64 (x.set 2), .int .u64 (x.set 3), .int .i64 x.lo, .int .i64 x.hi, .int .i64 x.num, .slice x.A x.n x.c] 28)).alloc (.cells (x.cell9 none 0 0 0 false .nilFunc) 106) := ⟨_, rfl⟩;have hbW := (obj2 hW).1;have hsW := (obj2 hW).2;have ho3 : W.heap[w.heap.size]? = some (.cells #[.int .i64 x.kind, .int .u64 (x.set 0), .int .u64 (x.set 1), .int .u64 (x.set 2), .int .u64 (x.set 3), .int .i64 x.lo, .int .i64 x.hi, .int .i64 x.num, .slice x.A x.n x.c] 28 (0, 0)) := (by rw [hW]; exact old_obj' (heap_alloc_new w _) _)
 have ho5 : W.heap[w.heap.size + 1]? = some (.cells (x.cell9 none 0 0 0 false .nilFunc) 106 (0, 0)) := by
  rw [hW, show w.heap.size + 1 = (w.alloc (.cells #[.int .i64 x.kind, .int .u64 (x.set 0), .int .u64 (x.set 1), .int .u64 (x.set 2), .int .u64 (x.set 3), .int .i64 x.lo, .int .i64 x.hi, .int .i64 x.num, .slice x.A x.n x.c] 28)).heap.size by rw [World.size_alloc]];exact heap_alloc_new _ _
 have HC := lh (counting_is (S := fun k => Pr S w 2 k \/ F.own k) (w := W) (fun k hk => by have := hS' k hk; omega) (hP2.stays hbW))
 have HI0 := lh fun (w1 : World) (A0 : Option Addr) (ys : List NV) (hb1 : Below W.heap.size W w1) (hall : AllP (fun k => Pr S w 2 k \/ F.own k) w1 (kidsOf t) ys) (hrow : RawOff (fun k => Pr S w 2 k \/ F.own k) w1 A0 (nsV ys)) => (show NumI S fb F L t x A0 ys w 0 w1 F.A F.c [] none 0 [] from by
  have hbw1 : Below w.heap.size w w1 := hbW.trans (hb1.mono hbW.size);have hr0 : ∀ k, ¬ rblk none 0 0 k := fun k e => by cases e
  refine ⟨?_, by simp [nodL], rfl, fun j q h => by simp at h, owns_nil w1, fun k e => absurd e (hr0 k), nlr _, bobj hb1 ho5 (by omega), ?_, ?_, Turned.of_below hbw1, fun k e => .inl (by rw [with_nil] at e; exact e)⟩
  ·rw [with_nil];exact (hN.pr 2 hbw1 (by have := hb1.size; omega)).weaken (S' := fun k => Pr S w 2 k \/ rblk none 0 0 k) (.inl (.inl hN.sm)) (.inl (.inl hN.sf)) fun k hk => hk.elim id fun e => absurd e (hr0 k)
  ·rw [with_nil];exact hrow.weaken fun k hk => hk.imp (fun hk => hk.elim id fun e => absurd e (hr0 k)) id
  ·rw [with_nil]
   exact ⟨hall.1, fun i s y h1 h2 => (hall.2 i s y h1 h2).weaken fun k hk => hk.imp (fun hk => hk.elim id fun e => absurd e (hr0 k)) id⟩)
 have HW := lh (aI hbW hsW);have k0 : W.cell? ⟨w.heap.size, 0, none⟩ = some (.int .i64 x.kind) := (by rw [obc ho3]; rfl);have k1 : W.cell? ⟨w.heap.size, 1, none⟩ = some (.int .u64 (x.set 0)) := (by rw [obc ho3]; rfl);have k2 : W.cell? ⟨w.heap.size, 2, none⟩ = some (.int .u64 (x.set 1)) := (by rw [obc ho3]; rfl);have k3 : W.cell? ⟨w.heap.size, 3, none⟩ = some (.int .u64 (x.set 2)) := (by rw [obc ho3]; rfl);have k4 : W.cell? ⟨w.heap.size, 4, none⟩ = some (.int .u64 (x.set 3)) := (by rw [obc ho3]; rfl);have k5 : W.cell? ⟨w.heap.size, 5, none⟩ = some (.int .i64 x.lo) := (by rw [obc ho3]; rfl);have k6 : W.cell? ⟨w.heap.size, 6, none⟩ = some (.int .i64 x.hi) := (by rw [obc ho3]; rfl);have k7 : W.cell? ⟨w.heap.size, 7, none⟩ = some (.int .i64 x.num) := (by rw [obc ho3]; rfl);have k8 : W.cell? ⟨w.heap.size, 8, none⟩ = some (.slice x.A x.n x.c) := (by rw [obc ho3]; rfl);have hl3 := lts ho3;unfold NV.v nodeV at HC ⊢;unfold NV.cell9 at hW;rw [show ((0 : Nat) : Int) = 0 from rfl] at hW;clear hIH hN hP hfew hxf hS' hP2 hcnt hlen hbW hsW ho3 ho5 hfbl hmbl;go_enter Tryz.func27, Tryz.ntmps27;go_upto_region 2 with fail;rw [<- hW];clear hW;go_wp2_with fail;go_at_call 43;with_reducible refine HC.out.mono ?_
 rintro e w1 ⟨A0, c0, ys, rfl, hall, hrow, hb1⟩;have HI1 := lh (HI0.out w1 A0 ys hb1 hall hrow);clear hall hrow hb1 k0 k1 k2 k3 k4 k5 k6 k7 k8 hl3;rw [<- hm];go_upto_region 3 with fail;go_loopw [7, 13] (fun _ iv wr => ∃ (i : Nat), iv = .int .i64 (i : Int) /\ i <= m /\ Hid (∃ A c l kA kc ks, NumI S fb F L t x A0 ys w i wr A c l kA kc ks)) (fun _ iv _ => m - (intOf iv).toNat)
 case atStart => exact ⟨0, rfl, Nat.zero_le _, lh ⟨_, _, _, _, _, _, HI1.out⟩⟩
 case round =>
  obtain ⟨i, rfl, hin, HY⟩ := hrel;obtain ⟨A, c, l, kA, kc, ks, hY⟩ := HY.out;have HY := lh hY;by_cases hlt : i < m
  ·have htk : i < (kidsOf t).length := (by rw [<- hm]; exact hlt);obtain ⟨tk, htk⟩ : ∃ tk, (kidsOf t)[i]? = some tk := ⟨(kidsOf t)[i]'htk, List.getElem?_eq_getElem _⟩;have hyl : i < ys.length := (by rw [HY.out.all.1, <- hm]; exact hlt);obtain ⟨y, hy⟩ : ∃ y, ys[i]? = some y := ⟨ys[i]'hyl, List.getElem?_eq_getElem _⟩;obtain ⟨g, o, hA0, hgl, hgc⟩ := kid_cells HY.out.row hy;have HPY := lh (HY.out.all.2 i tk y htk hy);have c0 := hgc 0 _ rfl;have c1 := hgc 1 _ rfl;have c2 := hgc 2 _ rfl;have c3 := hgc 3 _ rfl;have c4 := hgc 4 _ rfl;have c5 := hgc 5 _ rfl;have c6 := hgc 6 _ rfl;have c7 := hgc 7 _ rfl;have c8 := hgc 8 _ rfl;rw [Nat.add_zero] at c0;have HT := lh (aI htk hlt);have hiI : (i : Int) < (m : Int) := (by omega);have hi0 : (0 : Int) <= (i : Int) := (by omega);have hib : i < 1099511627776 := (by omega);subst hA0;clear htk hyl hy hgc hlt hin;go_upto_region 5 with fail;obtain ⟨V, hV⟩ : ∃ V, V = wr.alloc (.cells #[.int .i64 y.kind, .int .u64 (y.set 0), .int .u64 (y.set 1), .int .u64 (y.set 2), .int .u64 (y.set 3), .int .i64 y.lo, .int .i64 y.hi, .int .i64 y.num, .slice y.A y.n y.c] 28) := ⟨_, rfl⟩;have hbV : Below wr.heap.size wr V := (by rw [hV]; exact bW wr _);have hoV : V.heap[wr.heap.size]? = some (.cells #[.int .i64 y.kind, .int .u64 (y.set 0), .int .u64 (y.set 1), .int .u64 (y.set 2), .int .u64 (y.set 3), .int .i64 y.lo, .int .i64 y.hi, .int .i64 y.num, .slice y.A y.n y.c] 28 (0, 0)) := (by rw [hV]; exact heap_alloc_new wr _);rw [<- hV];have HV := lh (aI hbV hoV);clear hV hbV hoV
   have HS := lh fun (wx : World) (h5 : wx.heap[w.heap.size + 1]? = some (.cells (x.cell9 kA i kc 0 false .nilFunc) 106 (0, 0))) (h7 : wx.heap[wr.heap.size]? = some (.cells #[.int .i64 y.kind, .int .u64 (y.set 0), .int .u64 (y.set 1), .int .u64 (y.set 2), .int .u64 (y.set 3), .int .i64 y.lo, .int .i64 y.hi, .int .i64 y.num, .slice y.A y.n y.c] 28 (0, 0))) => (show wx.cell? ⟨w.heap.size + 1, 9, none⟩ = some (.slice kA i kc) /\ wx.cell? ⟨wr.heap.size, 0, none⟩ = some (.int .i64 y.kind) /\ wx.cell? ⟨wr.heap.size, 1, none⟩ = some (.int .u64 (y.set 0)) /\ wx.cell? ⟨wr.heap.size, 2, none⟩ = some (.int .u64 (y.set 1)) /\ wx.cell? ⟨wr.heap.size, 3, none⟩ = some (.int .u64 (y.set 2)) /\ wx.cell? ⟨wr.heap.size, 4, none⟩ = some (.int .u64 (y.set 3)) /\ wx.cell? ⟨wr.heap.size, 5, none⟩ = some (.int .i64 y.lo) /\ wx.cell? ⟨wr.heap.size, 6, none⟩ = some (.int .i64 y.hi) /\ wx.cell? ⟨wr.heap.size, 7, none⟩ = some (.int .i64 y.num) /\ wx.cell? ⟨wr.heap.size, 8, none⟩ = some (.slice y.A y.n y.c) by
    refine ⟨by rw [obc h5]; rfl, ?_, ?_, ?_, ?_, ?_, ?_, ?_, ?_, ?_⟩ <;> (rw [obc h7]; rfl))
   have h5V : V.heap[w.heap.size + 1]? = _ := bobj HV.out.1 HY.out.o5 (lts HY.out.o5);have hq5 : V.cell? ⟨w.heap.size + 1, 9, none⟩ = some (.slice kA i kc) := (by rw [obc h5V]; rfl)
   have HI := lh (HIH.out i tk HT.out.1 (fun k => Pr S w 2 k \/ rblk kA i kc k) V.drew fb (F.with' A c l) L y (HY.out.num.below (HV.out.1.trans ((bD V 1).mono HV.out.1.size))) (HPY.out.stays (HV.out.1.trans ((bD V 1).mono HV.out.1.size))) (by
    have h1 := nodL_take HT.out.1;have h2 := nodL_le (kidsOf t) (i + 1);have h3 := HF.out.1;have h4 := HF.out.2.1;have h5 := HY.out.len;show (F.nds ++ l).length + nodT tk <= 100000;rw [List.length_append]
    omega))
   unfold NV.v nodeV at HI;have HSV := lh (HS.out V.drew h5V HV.out.2);clear h5V hq5 c0 c1 c2 c3 c4 c5 c6 c7 c8;refine wp_region_heads (fun wx => wx.cell? ⟨w.heap.size + 1, 9, none⟩ = some (.slice kA i kc) /\ wx.cell? ⟨wr.heap.size, 0, none⟩ = some (.int .i64 y.kind) /\ wx.cell? ⟨wr.heap.size, 1, none⟩ = some (.int .u64 (y.set 0)) /\ wx.cell? ⟨wr.heap.size, 2, none⟩ = some (.int .u64 (y.set 1)) /\ wx.cell? ⟨wr.heap.size, 3, none⟩ = some (.int .u64 (y.set 2)) /\ wx.cell? ⟨wr.heap.size, 4, none⟩ = some (.int .u64 (y.set 3)) /\ wx.cell? ⟨wr.heap.size, 5, none⟩ = some (.int .i64 y.lo) /\ wx.cell? ⟨wr.heap.size, 6, none⟩ = some (.int .i64 y.hi) /\ wx.cell? ⟨wr.heap.size, 7, none⟩ = some (.int .i64 y.num) /\ wx.cell? ⟨wr.heap.size, 8, none⟩ = some (.slice y.A y.n y.c)) [0, 1, 2, 3] [4, 5, 6, 7, 8] [6, 7, 8] (by kernel_rfl) (by kernel_rfl) (by kernel_rfl) (fun c a d v w h => hq_body (P := Tryz.prog) (fn := Tryz.f27) c a d v w h) (by kernel_rfl) HSV.out ?_
   iterate 4
    refine heads_step (v := ?_) rfl (by rfl) (fun wx hSw => ?_) ?_;rotate_left
    ·obtain ⟨u0, u1, u2, u3, u4, u5, u6, u7, u8, u9⟩ := hSw;go_simp;try with_reducible rfl
    simp only [Act.put, List.setIfInBounds_toArray]
   refine heads_end ?_;refine tail_step rfl (fun K hK => ?_);go_simp;refine HI.out.mono ?_;rintro e w2 ⟨A', c', l', q, d, rfl, hE⟩;obtain ⟨g5, kA', kc', w4, hap, g54, hT4, hI'⟩ := HY.out.go HN.out HT.out.1 (by have := HT.out.2; omega) (HV.out.1.trans ((bD V 1).mono HV.out.1.size)) hE;have g7 := hE.tur.obj (HV.out.2 : V.drew.heap[wr.heap.size]? = _) (fun e => e.elim (fun e => by have := lts HY.out.num.obj; omega) fun e => by have := own_lt HY.out.num.row e; omega);have g74 := hT4.obj g7 fun e => by have := own_lt HY.out.krow e; omega
   have HA := lh hap;have HQ := lh (aI g54 (aI g74 (aI g7 hI')));have d0 : w4.cell? ⟨w.heap.size + 1, 9, none⟩ = some (.slice kA i kc) := (by rw [obc g54]; rfl);have d1 := obj_frozen g54 9;have d2 := lts g54;refine hK _ _ ⟨fun _ => HS.out _ g5 g7, ?_⟩;have g53 := bobj (bW w2 (.cells #[.int .i64 (q : Int)] 3)) g5 (lts g5);have g73 := bobj (bW w2 (.cells #[.int .i64 (q : Int)] 3)) g7 (lts g7);have HS3 := lh (HS.out _ g53 g73);clear hK K hE hap hT4 hI' g5 g54 g7 g74 g53 g73;try simp only [Act.put, List.setIfInBounds_toArray, List.set_cons_zero, List.set_cons_succ]
   refine tail_step rfl (fun K hK => ?_);go_simp;refine hK _ _ ⟨fun _ => HS3.out, ?_⟩;clear hK K;try simp only [Act.put, List.setIfInBounds_toArray, List.set_cons_zero, List.set_cons_succ]
   refine tail_append 23 rfl HA.out rfl rfl ⟨fun h => by simp at h, ?_⟩;try simp only [Act.put, List.setIfInBounds_toArray, List.set_cons_zero, List.set_cons_succ]
   refine tail_step rfl (fun K hK => ?_);go_simp;refine hK _ _ ⟨fun h => by simp at h, ?_⟩;clear hK K;try simp only [Act.put, List.setIfInBounds_toArray, List.set_cons_zero, List.set_cons_succ]
   refine tail_step rfl (fun K hK => ?_);go_simp;refine hK _ _ ⟨fun h => by simp at h, ?_⟩;clear hK K;try simp only [Act.put, List.setIfInBounds_toArray, List.set_cons_zero, List.set_cons_succ]
   refine tail_end ?_;have hwi : wrap64 ((i : Int) + 1) = (i : Int) + 1 := IntWalk.wrap64_in _ (by omega);clear d0 d1 d2;go_wp2_with fail;go_roundw
   case rel => exact ⟨i + 1, by go_num, by have := HT.out.2; omega, lh ⟨_, _, _, _, _, _, HQ.out.2.2.2⟩⟩
   case measure =>
    have := HT.out.2;show m - (((i : Int) + 1).toNat) < m - (i : Int).toNat;omega
  ·have hi : i = m := (by omega);have hX := HY.out.behind HN.out HF.out.2.2.2 (by rw [hi]; exact HF.out.2.2.1) (by omega);have hiI : ¬ (i : Int) < (m : Int) := (by omega);obtain ⟨nk, hnk⟩ : ∃ n, n = ks.length := ⟨_, rfl⟩;have HX := lh hX;have ho5 := hX.o5;rw [<- hnk] at ho5;have HFW := lh fun (V : World) (e : Nat) (g : Bool) (fn : Value) (h : NumX S fb F L t x w V A c l kA kc ks e g fn) => (show FindAt (Pr S w 2) V fb (F.with' A c l) L /\ OffAt (Pr S w 2) V kA (intsV ks) from ⟨h.num.find, h.kids.weaken fun k hk => .inl hk⟩);have HE := lh (emptySpots_is (d := ⟨t, x, kA, kc, ks, 0, false, .nilFunc⟩) (HFW.out _ _ _ _ hX).1 hX.nq (HFW.out _ _ _ _ hX).2);unfold ND.bare at HE;simp only at HE;rw [<- hnk, show ((0 : Nat) : Int) = 0 from rfl] at HE;have q0 : wr.cell? ⟨w.heap.size + 1, 0, none⟩ = some (.int .i64 x.kind) := (by rw [obc ho5]; rfl);have q1 : wr.cell? ⟨w.heap.size + 1, 1, none⟩ = some (.int .u64 (x.set 0)) := (by rw [obc ho5]; rfl);have q2 : wr.cell? ⟨w.heap.size + 1, 2, none⟩ = some (.int .u64 (x.set 1)) := (by rw [obc ho5]; rfl);have q3 : wr.cell? ⟨w.heap.size + 1, 3, none⟩ = some (.int .u64 (x.set 2)) := (by rw [obc ho5]; rfl);have q4 : wr.cell? ⟨w.heap.size + 1, 4, none⟩ = some (.int .u64 (x.set 3)) := (by rw [obc ho5]; rfl);have q5 : wr.cell? ⟨w.heap.size + 1, 5, none⟩ = some (.int .i64 x.lo) := (by rw [obc ho5]; rfl);have q6 : wr.cell? ⟨w.heap.size + 1, 6, none⟩ = some (.int .i64 x.hi) := (by rw [obc ho5]; rfl);have q7 : wr.cell? ⟨w.heap.size + 1, 7, none⟩ = some (.int .i64 x.num) := (by rw [obc ho5]; rfl);have q8 : wr.cell? ⟨w.heap.size + 1, 8, none⟩ = some (.slice x.A x.n x.c) := (by rw [obc ho5]; rfl);have q9 : wr.cell? ⟨w.heap.size + 1, 9, none⟩ = some (.slice kA nk kc) := (by rw [obc ho5]; rfl);have q10 : wr.cell? ⟨w.heap.size + 1, 10, none⟩ = some (.int .u8 0) := (by rw [obc ho5]; rfl);have q11 : wr.cell? ⟨w.heap.size + 1, 11, none⟩ = some (.bool false) := (by rw [obc ho5]; rfl);have q12 : wr.cell? ⟨w.heap.size + 1, 12, none⟩ = some (.nilFunc) := (by rw [obc ho5]; rfl);have hf0 := obj_frozen ho5 10;have hl5 := lts ho5;obtain ⟨e0, he0⟩ : ∃ e0, e0 = empT t := ⟨_, rfl⟩;rw [<- he0] at HE;have HNK := lh (aI hnk he0);clear hin hlt hi ho5 hnk he0 hX;go_wp2_with fail;go_at_call 44;with_reducible refine HE.out.mono ?_
   rintro e w2 ⟨rfl, hb2⟩;have hX2 := HX.out.below hb2;have ho2 := hX2.o5;rw [<- HNK.out.1] at ho2;have hg10 : w2.cell? ⟨w.heap.size + 1, 10, none⟩ = some (.int .u8 0) := (by rw [obc ho2]; rfl);have hf10 := obj_frozen ho2 10;have hl2 := lts ho2;have hX3 := (hX2.set HN.out (i := 10) (v := .int .u8 (e0 : Int)) (e' := e0) (g' := false) (fn' := .nilFunc) rfl).1;have HX3 := lh hX3;clear hX2 ho2 hX3 hb2 q0 q1 q2 q3 q4 q5 q6 q7 q8 q9 q10 q11 q12 hf0 hl5;go_upto_region 8 with fail;obtain ⟨w3, hw3⟩ : ∃ w3, w3 = w2.setCell ⟨w.heap.size + 1, 10, none⟩ (.int .u8 (e0 : Int)) := ⟨_, rfl⟩;rw [<- hw3] at HX3 ⊢;clear hw3 hg10 hf10 hl2;have ho5 := HX3.out.o5;rw [<- HNK.out.1] at ho5;have HG := lh (hasGroup_is (d := ⟨t, x, kA, kc, ks, e0, false, .nilFunc⟩) (HFW.out _ _ _ _ HX3.out).1 HX3.out.nq (HFW.out _ _ _ _ HX3.out).2);unfold ND.bare at HG;simp only at HG;rw [<- HNK.out.1] at HG;have q0 : w3.cell? ⟨w.heap.size + 1, 0, none⟩ = some (.int .i64 x.kind) := (by rw [obc ho5]; rfl);have q1 : w3.cell? ⟨w.heap.size + 1, 1, none⟩ = some (.int .u64 (x.set 0)) := (by rw [obc ho5]; rfl);have q2 : w3.cell? ⟨w.heap.size + 1, 2, none⟩ = some (.int .u64 (x.set 1)) := (by rw [obc ho5]; rfl);have q3 : w3.cell? ⟨w.heap.size + 1, 3, none⟩ = some (.int .u64 (x.set 2)) := (by rw [obc ho5]; rfl);have q4 : w3.cell? ⟨w.heap.size + 1, 4, none⟩ = some (.int .u64 (x.set 3)) := (by rw [obc ho5]; rfl);have q5 : w3.cell? ⟨w.heap.size + 1, 5, none⟩ = some (.int .i64 x.lo) := (by rw [obc ho5]; rfl);have q6 : w3.cell? ⟨w.heap.size + 1, 6, none⟩ = some (.int .i64 x.hi) := (by rw [obc ho5]; rfl);have q7 : w3.cell? ⟨w.heap.size + 1, 7, none⟩ = some (.int .i64 x.num) := (by rw [obc ho5]; rfl);have q8 : w3.cell? ⟨w.heap.size + 1, 8, none⟩ = some (.slice x.A x.n x.c) := (by rw [obc ho5]; rfl);have q9 : w3.cell? ⟨w.heap.size + 1, 9, none⟩ = some (.slice kA nk kc) := (by rw [obc ho5]; rfl);have q10 : w3.cell? ⟨w.heap.size + 1, 10, none⟩ = some (.int .u8 (e0 : Int)) := (by rw [obc ho5]; rfl);have q11 : w3.cell? ⟨w.heap.size + 1, 11, none⟩ = some (.bool false) := (by rw [obc ho5]; rfl);have q12 : w3.cell? ⟨w.heap.size + 1, 12, none⟩ = some (.nilFunc) := (by rw [obc ho5]; rfl);have hl5 := lts ho5;obtain ⟨g0, hg0⟩ : ∃ g0, g0 = grpT t := ⟨_, rfl⟩;rw [<- hg0] at HG;have HG0 := lh hg0;clear ho5 hg0;go_wp2_with fail;go_at_call 45;with_reducible refine HG.out.mono ?_
   rintro e w4 ⟨rfl, hb4⟩;have hX4 := HX3.out.below hb4;have ho4 := hX4.o5;rw [<- HNK.out.1] at ho4;have hg11 : w4.cell? ⟨w.heap.size + 1, 11, none⟩ = some (.bool false) := (by rw [obc ho4]; rfl);have hf11 := obj_frozen ho4 11;have hl4 := lts ho4;have hX5 := (hX4.set HN.out (i := 11) (v := .bool g0) (e' := e0) (g' := g0) (fn' := .nilFunc) rfl).1;have HX5 := lh hX5;clear hX4 ho4 hX5 hb4 q0 q1 q2 q3 q4 q5 q6 q7 q8 q9 q10 q11 q12 hl5;go_upto_region 9 with fail;obtain ⟨w5, hw5⟩ : ∃ w5, w5 = w4.setCell ⟨w.heap.size + 1, 11, none⟩ (.bool g0) := ⟨_, rfl⟩;rw [<- hw5] at HX5 ⊢;clear hw5 hg11 hf11 hl4;have ho5 := HX5.out.o5;rw [<- HNK.out.1] at ho5;have HFL := lh (flow_made (d := ⟨t, x, kA, kc, ks, e0, g0, .nilFunc⟩) (S2 := fun k => Pr S w 2 k \/ (F.with' A c l).own k) (HFW.out _ _ _ _ HX5.out).1 HX5.out.nq (HFW.out _ _ _ _ HX5.out).2 fun k hk => hk.elim (fun h => HX5.out.num.old k h) fun h => own_lt HX5.out.num.row h);unfold ND.bare at HFL;simp only at HFL;rw [<- HNK.out.1] at HFL;have q0 : w5.cell? ⟨w.heap.size + 1, 0, none⟩ = some (.int .i64 x.kind) := (by rw [obc ho5]; rfl);have q1 : w5.cell? ⟨w.heap.size + 1, 1, none⟩ = some (.int .u64 (x.set 0)) := (by rw [obc ho5]; rfl);have q2 : w5.cell? ⟨w.heap.size + 1, 2, none⟩ = some (.int .u64 (x.set 1)) := (by rw [obc ho5]; rfl);have q3 : w5.cell? ⟨w.heap.size + 1, 3, none⟩ = some (.int .u64 (x.set 2)) := (by rw [obc ho5]; rfl);have q4 : w5.cell? ⟨w.heap.size + 1, 4, none⟩ = some (.int .u64 (x.set 3)) := (by rw [obc ho5]; rfl);have q5 : w5.cell? ⟨w.heap.size + 1, 5, none⟩ = some (.int .i64 x.lo) := (by rw [obc ho5]; rfl);have q6 : w5.cell? ⟨w.heap.size + 1, 6, none⟩ = some (.int .i64 x.hi) := (by rw [obc ho5]; rfl);have q7 : w5.cell? ⟨w.heap.size + 1, 7, none⟩ = some (.int .i64 x.num) := (by rw [obc ho5]; rfl);have q8 : w5.cell? ⟨w.heap.size + 1, 8, none⟩ = some (.slice x.A x.n x.c) := (by rw [obc ho5]; rfl);have q9 : w5.cell? ⟨w.heap.size + 1, 9, none⟩ = some (.slice kA nk kc) := (by rw [obc ho5]; rfl);have q10 : w5.cell? ⟨w.heap.size + 1, 10, none⟩ = some (.int .u8 (e0 : Int)) := (by rw [obc ho5]; rfl);have q11 : w5.cell? ⟨w.heap.size + 1, 11, none⟩ = some (.bool g0) := (by rw [obc ho5]; rfl);have q12 : w5.cell? ⟨w.heap.size + 1, 12, none⟩ = some (.nilFunc) := (by rw [obc ho5]; rfl);have hl5 := lts ho5;clear ho5;go_wp2_with fail;go_at_call 46;with_reducible refine HFL.out.mono ?_
   rintro e w6 ⟨v, rfl, hb6, hv6⟩;obtain ⟨fid, bs, hvf⟩ := flow_form hv6;subst hvf;have hX6 := HX5.out.below hb6;have ho6 := hX6.o5;rw [<- HNK.out.1] at ho6;have hg12 : w6.cell? ⟨w.heap.size + 1, 12, none⟩ = some .nilFunc := (by rw [obc ho6]; rfl);have hf12 := obj_frozen ho6 12;have hl6 := lts ho6;have hX7 := hX6.set HN.out (i := 12) (v := .func (.func fid) #[] bs) (e' := e0) (g' := g0) (fn' := .func (.func fid) #[] bs) rfl;have hv7 := hv6.turned hX7.2 fun k hk => .inl (.inr (by omega));have HX7 := lh (aI hX7.1 hv7);clear hX6 ho6 hX7 hb6 hv6 hv7 q0 q1 q2 q3 q4 q5 q6 q7 q8 q9 q10 q11 q12 hl5;go_upto_region 10 with fail;obtain ⟨w7, hw7⟩ : ∃ w7, w7 = w6.setCell ⟨w.heap.size + 1, 12, none⟩ (.func (.func fid) #[] bs) := ⟨_, rfl⟩;rw [<- hw7] at HX7 ⊢;clear hw7 hg12 hf12 hl6;obtain ⟨n, hn⟩ : ∃ n, n = F.nds.length + l.length := ⟨_, rfl⟩
   have hob : w7.heap[fb]? = some (.cells #[.string F.s, .bool F.b, .int .i64 (L : Int), .slice A n c, .map (some F.mb)] 100 (0, 0)) := by
    have h1 := HX7.out.1.num.obj;rw [show (F.with' A c l).nds.length = n by rw [hn]; show (F.nds ++ l).length = _; rw [List.length_append]] at h1;exact h1
   have ho5 := HX7.out.1.o5;rw [<- HNK.out.1] at ho5
   have HS := lh fun (wx : World) (h3 : wx.heap[fb]? = some (.cells #[.string F.s, .bool F.b, .int .i64 (L : Int), .slice A n c, .map (some F.mb)] 100 (0, 0))) (h5 : wx.heap[w.heap.size + 1]? = some (.cells (x.cell9 kA nk kc e0 g0 (.func (.func fid) #[] bs)) 106 (0, 0))) => (show wx.cell? ⟨fb, 3, none⟩ = some (.slice A n c) /\ wx.cell? ⟨w.heap.size + 1, 0, none⟩ = some (.int .i64 x.kind) /\ wx.cell? ⟨w.heap.size + 1, 1, none⟩ = some (.int .u64 (x.set 0)) /\ wx.cell? ⟨w.heap.size + 1, 2, none⟩ = some (.int .u64 (x.set 1)) /\ wx.cell? ⟨w.heap.size + 1, 3, none⟩ = some (.int .u64 (x.set 2)) /\ wx.cell? ⟨w.heap.size + 1, 4, none⟩ = some (.int .u64 (x.set 3)) /\ wx.cell? ⟨w.heap.size + 1, 5, none⟩ = some (.int .i64 x.lo) /\ wx.cell? ⟨w.heap.size + 1, 6, none⟩ = some (.int .i64 x.hi) /\ wx.cell? ⟨w.heap.size + 1, 7, none⟩ = some (.int .i64 x.num) /\ wx.cell? ⟨w.heap.size + 1, 8, none⟩ = some (.slice x.A x.n x.c) /\ wx.cell? ⟨w.heap.size + 1, 9, none⟩ = some (.slice kA nk kc) /\ wx.cell? ⟨w.heap.size + 1, 10, none⟩ = some (.int .u8 (e0 : Int)) /\ wx.cell? ⟨w.heap.size + 1, 11, none⟩ = some (.bool g0) /\ wx.cell? ⟨w.heap.size + 1, 12, none⟩ = some (.func (.func fid) #[] bs) by
    refine ⟨by rw [obc h3]; rfl, ?_, ?_, ?_, ?_, ?_, ?_, ?_, ?_, ?_, ?_, ?_, ?_, ?_⟩ <;> (rw [obc h5]; rfl))
   have hX7 := HX7.out.1;rw [HNK.out.2, HG0.out] at hX7;have hv7 := HX7.out.2;rw [HNK.out.2, HG0.out] at hv7;have hbd : Below w7.heap.size w7 (w7.drew.alloc (.cells #[.int .i64 x.kind, .int .u64 (x.set 0), .int .u64 (x.set 1), .int .u64 (x.set 2), .int .u64 (x.set 3), .int .i64 x.lo, .int .i64 x.hi, .int .i64 x.num, .slice x.A x.n x.c, .slice kA nk kc, .int .u8 (e0 : Int), .bool g0, .func (.func fid) #[] bs] 106)) := (bD w7 1).alloc (nlr _) _
   obtain ⟨A2, c2, w8, hap, p8, p9, p5, hE⟩ := hX7.push HN.out hv7.refn HF.out.1 hbd (b := w7.heap.size) (by
    intro j u hu;rw [Nat.zero_add];refine (obc (heap_alloc_new w7.drew _) j).trans ?_;rw [List.getElem?_toArray];rw [HNK.out.2, HG0.out, HNK.out.1]
    exact hu)
   rw [<- hn] at hap p8 p9 hE;rw [<- HNK.out.1, <- HNK.out.2, <- HG0.out] at p5;have HA := lh hap;have HEQ := lh hE;have HS7 := lh (HS.out w7.drew hob ho5);have HS7a := lh (HS.out _ (bobj hbd hob (lts hob)) (bobj hbd ho5 (lts ho5)));have HS8 := lh (HS.out w8 p8 p5);have hcf := obc p8 3;have hff := obj_frozen p8 3;have hlf := lts p8;have hfl7 := lts hob;have hcn := obc p9 3;simp only [List.getElem?_toArray, List.getElem?_cons_succ, List.getElem?_cons_zero] at hcf hcn
   have hnb : n <= 100000 := by
    have h1 := HX7.out.1.num.few;rw [show (F.with' A c l).nds.length = n by rw [hn]; show (F.nds ++ l).length = _; rw [List.length_append]] at h1;exact h1
   have hwn : wrap64 (n : Int) = (n : Int) := IntWalk.wrap64_in _ (by omega);have HWN := lh hwn;clear hn hob ho5 hX7 hv7 hbd hap p8 p9 p5 hE hwn hnb;refine wp_region_heads (fun wx => wx.cell? ⟨fb, 3, none⟩ = some (.slice A n c) /\ wx.cell? ⟨w.heap.size + 1, 0, none⟩ = some (.int .i64 x.kind) /\ wx.cell? ⟨w.heap.size + 1, 1, none⟩ = some (.int .u64 (x.set 0)) /\ wx.cell? ⟨w.heap.size + 1, 2, none⟩ = some (.int .u64 (x.set 1)) /\ wx.cell? ⟨w.heap.size + 1, 3, none⟩ = some (.int .u64 (x.set 2)) /\ wx.cell? ⟨w.heap.size + 1, 4, none⟩ = some (.int .u64 (x.set 3)) /\ wx.cell? ⟨w.heap.size + 1, 5, none⟩ = some (.int .i64 x.lo) /\ wx.cell? ⟨w.heap.size + 1, 6, none⟩ = some (.int .i64 x.hi) /\ wx.cell? ⟨w.heap.size + 1, 7, none⟩ = some (.int .i64 x.num) /\ wx.cell? ⟨w.heap.size + 1, 8, none⟩ = some (.slice x.A x.n x.c) /\ wx.cell? ⟨w.heap.size + 1, 9, none⟩ = some (.slice kA nk kc) /\ wx.cell? ⟨w.heap.size + 1, 10, none⟩ = some (.int .u8 (e0 : Int)) /\ wx.cell? ⟨w.heap.size + 1, 11, none⟩ = some (.bool g0) /\ wx.cell? ⟨w.heap.size + 1, 12, none⟩ = some (.func (.func fid) #[] bs)) [0, 1, 2, 3, 4, 5] [6, 7, 8, 9, 10] [10] (by kernel_rfl) (by kernel_rfl) (by kernel_rfl) (fun c a d v w h => hq_body (P := Tryz.prog) (fn := Tryz.f27) c a d v w h) (by kernel_rfl) HS7.out ?_
   iterate 6
    refine heads_step (v := ?_) rfl (by rfl) (fun wx hSw => ?_) ?_;rotate_left
    ·obtain ⟨u0, u1, u2, u3, u4, u5, u6, u7, u8, u9, u10, u11, u12, u13⟩ := hSw;go_simp;try with_reducible rfl
    simp only [Act.put, List.setIfInBounds_toArray]
   refine heads_end ?_;refine tail_step rfl (fun K hK => ?_);go_simp;refine hK _ _ ⟨fun _ => HS7a.out, ?_⟩;clear hK K;try simp only [Act.put, List.setIfInBounds_toArray, List.set_cons_zero, List.set_cons_succ]
   refine tail_append 45 rfl HA.out rfl rfl ⟨fun _ => HS8.out, ?_⟩;try simp only [Act.put, List.setIfInBounds_toArray, List.set_cons_zero, List.set_cons_succ]
   iterate 2
    refine tail_step rfl (fun K hK => ?_);go_simp;refine hK _ _ ⟨fun _ => HS8.out, ?_⟩;clear hK K;try simp only [Act.put, List.setIfInBounds_toArray, List.set_cons_zero, List.set_cons_succ]
   refine tail_step rfl (fun K hK => ?_);go_simp;refine hK _ _ ⟨fun h => by simp at h, ?_⟩;clear hK K;try simp only [Act.put, List.setIfInBounds_toArray, List.set_cons_zero, List.set_cons_succ]
   refine tail_end ?_;obtain ⟨w9, hw9⟩ : ∃ w9, w9 = w8.setCell ⟨fb, 3, none⟩ (.slice A2 (n + 1) c2) := ⟨_, rfl⟩;rw [<- hw9] at HEQ hcn ⊢;clear hw9 hcf hff hlf hfl7;have hwn := HWN.out;go_wp2_with fail;refine bodyPost_ret (v := .int .i64 (n : Int)) (by simp [results, Tryz.results27, go_sem, hwn]) rfl HEQ.out
theorem nodL_mem {ts : List PN} {i : Nat} {t : PN} (h : ts[i]? = some t) : nodT t <= nodL ts := by
 have h1 := nodL_take h;have h2 := nodL_le ts (i + 1);omega
theorem number_all (t : PN) : NumC t := by
 obtain ⟨n, hn⟩ : ∃ n, nodT t <= n := ⟨_, nlr _⟩
 induction n generalizing t with
 | zero => have := nod_pos t; omega
 | succ n ih =>
  refine number_step fun i tk h => ih tk ?_;have h1 := nodL_mem h;have h2 := nod_cnt t;omega
end Go.Proofs.YtflkfleihlceeaaGreatDoor

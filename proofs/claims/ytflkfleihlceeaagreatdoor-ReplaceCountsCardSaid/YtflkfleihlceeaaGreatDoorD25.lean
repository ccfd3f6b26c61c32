import Derived.Test.YtflkfleihlceeaaGreatDoorD18
import Derived.Test.YtflkfleihlceeaaGreatDoorD13
import Derived.Test.YtflkfleihlceeaaGreatDoorD14
import Derived.Test.YtflkfleihlceeaaGreatDoorD17
/-
 leading's walk. Condition: the finder and the goals are in memory.
-/
namespace Go.Proofs.YtflkfleihlceeaaGreatDoor
open Go.RowKit Go.Deep Go.Sort
theorem own_ne {w : World} {B g b : Nat} {e T : TypeId} {sz n : Nat} {v : Value} {vs : List Value} {cs : Array Value} {fz : Nat × Nat} (h : w.ownsRow B e sz v n vs) (hg : v.ownBlock = some g) (hb : w.heap[b]? = some (.cells cs T fz)) (hT : T ≠ e) : g ≠ b := by
 intro e0;subst e0;rcases h.2 with ⟨e1, _⟩ | ⟨k, cap, cur, e1, _, hk, _⟩
 ·rw [e1] at hg; cases hg
 ·rw [e1] at hg
  have : k = g := by
   have h2 : some k = some g := hg;injection h2
  subst this;rw [hb] at hk;injection hk with hk;injection hk with _ hk _;exact hT hk
theorem IxAt.map {N mb : Nat} {w : World} {x : Ix} (h : IxAt (fun _ => False) N w x) {es : Array MapEntry} {c : Nat} (hm : w.heap[mb]? = some (.map es c)) : IxAt (· = mb) N w x := by
 refine ⟨?_, h.cap, h.ok, h.fits⟩;rcases h.off with h1 | ⟨g, o, e, _, hr⟩
 ·exact .inl h1
 ·cases hv : wsV x.ws with
  | nil => exact .inl rfl
  | cons v vs =>
   right;rw [hv] at hr;refine ⟨g, o, e, fun e2 => ?_, hr⟩;have h2 := hr 0 v rfl;rw [e2] at h2;simp [World.cell?, hm] at h2
structure LdF (S : Nat -> Prop) (fb : Nat) (F : FN) (L : Nat) (G : Option Addr) (xs : List Ix) (s : Ix) (b10 b12 : Nat) (V : World) : Prop where
 fin : FindAt S V fb F L
 row : OffAt (· = F.mb) V G (ixsV xs)
 sets : ∀ x ∈ xs, IxAt (· = F.mb) F.N V x
 o10 : V.heap[b10]? = some (.cells #[.int .i64 0, .slice none 0 0] 68 (0, 0))
 o12 : V.heap[b12]? = some (.cells #[.int .i64 (s.f : Int), .slice s.A s.ws.length s.c] 68 (0, 0))
theorem LdF.go {S : Nat -> Prop} {fb L b10 b12 B : Nat} {F : FN} {G : Option Addr} {xs : List Ix} {s : Ix} {V V' : World} (h : LdF S fb F L G xs s b10 b12 V) (ht : Turned (fun k => k = F.mb \/ B <= k) V V') (hB : V.heap.size <= B) (h10 : b10 ≠ F.mb) (h12 : b12 ≠ F.mb) (hf : FindAt S V' fb F L) : LdF S fb F L G xs s b10 b12 V' := by
 have l10 := lts h.o10;have l12 := lts h.o12;refine ⟨hf, ?_, fun x hx => ?_, ht.obj h.o10 fun e => e.elim h10 fun e => by omega, ht.obj h.o12 fun e => e.elim h12 fun e => by omega⟩
 ·have h1 : OffAt (fun k => k = F.mb \/ B <= k) V G (ixsV xs) := h.row.fresh fun k hk => hk.imp_right fun e => by omega
  exact (h1.turned ht).weaken fun k hk => .inl hk
 ·have h1 : IxAt (fun k => k = F.mb \/ B <= k) F.N V x := (h.sets x hx).fresh fun k hk => hk.imp_right fun e => by omega
  exact (h1.turned ht).weaken fun k hk => .inl hk
structure GlSel (xs : List Ix) (rd n z : Nat) (hi : Int) (gl : (Nat -> Bool) -> Nat -> Bool) : Prop where
 nxt : rd + 1 < n -> ∃ x', xs[rd + 1]? = some x' /\ (∀ B, gl B = x'.mem) /\ ∀ e, x'.mem e = true -> e <= z
 self : ¬ rd + 1 < n -> hi < 0 -> ∀ B, gl B = B
 none : ¬ rd + 1 < n -> ¬ hi < 0 -> ∀ B, gl B = noneB
theorem GlSel.ok {xs : List Ix} {rd n z : Nat} {hi : Int} {gl : (Nat -> Bool) -> Nat -> Bool} (h : GlSel xs rd n z hi gl) : GlOk gl := by
 by_cases h1 : rd + 1 < n
 ·obtain ⟨x', _, e, _⟩ := h.nxt h1;exact .inr ⟨x'.mem, e⟩
 ·by_cases h2 : hi < 0
  ·exact .inl (h.self h1 h2)
  ·exact .inr ⟨noneB, h.none h1 h2⟩
set_option maxRecDepth 100000 in
set_option maxHeartbeats 2000000 in
theorem leading_is {S : Nat -> Prop} {w : World} {fb L k z rd n c q : Nat} {F : FN} {d d' : ND} {v : Value} {G : Option Addr} {xs : List Ix} {s : Ix} {gl : (Nat -> Bool) -> Nat -> Bool} (h : FindAt S w fb F L) (hd : F.nds[k]? = some d) (hv : NdP F k v) (hq : d.ks[0]? = some q) (hd' : F.nds[q]? = some d') (hrow : OffAt (· = F.mb) w G (ixsV xs)) (hsets : ∀ x ∈ xs, IxAt (· = F.mb) F.N w x) (hxl : xs.length = n) (hr : rd < n) (hn : n <= 1000001) (hzL : z <= L) (hs : xs[rd]? = some s) (hgl : GlSel xs rd n z d.x.hi gl) :
  Calls Tryz.prog 119 #[ptrV fb, v, .slice G n c, .int .i64 (rd : Int), .int .i64 (z : Int)] w (LeadE S fb F L (F.rel d'.t) d.x.lo z rd s.mem gl w) := by
 obtain ⟨gn, on, hA, hve, hcell⟩ := ndp_cells h hd hv;subst hve;obtain ⟨gg, og, hGg, hggl, m0, m1⟩ := ixs_cell hrow hs;subst hGg;obtain ⟨hgl0, hcw⟩ := hcell w h;obtain ⟨gk, ok, hkA, hgk, hck⟩ := (h.mem k d hd).kids.cell (intsV_at hq);rw [Nat.add_zero] at hck;have c9 := hcw 9 _ rfl;rw [hkA] at c9;have hnk0 : 0 < d.ks.length := (List.getElem?_eq_some_iff.1 hq).1;obtain ⟨nk, hnk⟩ : ∃ n, n = d.ks.length := ⟨_, rfl⟩;rw [<- hnk] at c9 hnk0;obtain ⟨ns, hns⟩ : ∃ n, n = s.ws.length := ⟨_, rfl⟩;rw [<- hns] at m1;have hzN : z <= F.N := Nat.le_trans hzL h.lim;have hsm := h.small;have HP := lh (aI hxl (aI hr (aI hn (aI hzL (aI hzN hsm)))));have HX := lh (aI hs (aI hgl (aI hd' hns)))
 have HC := lh fun (V : World) (hV : FindAt (Pr S w 1) V fb F L) => (show gn < V.heap.size /\ V.cell? ⟨gn, on + k * 13 + 5, none⟩ = some (.int .i64 d.x.lo) /\ V.cell? ⟨gn, on + k * 13 + 6, none⟩ = some (.int .i64 d.x.hi) by
  have h1 := hV.weaken h.sm h.sf fun j hj => .inl hj
  exact ⟨(hcell V h1).1, (hcell V h1).2 5 _ rfl, (hcell V h1).2 6 _ rfl⟩)
 have HH0 := lh h;have hmb := h.kept.lt;obtain ⟨W, hW⟩ : ∃ W, W = w.alloc (.cells #[.int .i64 0, .slice none 0 0] 68) := ⟨_, rfl⟩;have hbW : Below w.heap.size w W := (by rw [hW]; exact bW w _);have ho10 : W.heap[w.heap.size]? = some (.cells #[.int .i64 0, .slice none 0 0] 68 (0, 0)) := (by rw [hW]; exact heap_alloc_new w _)
 have HF := lh fun (V : World) (hV : Below W.heap.size W V) => (show V.cell? ⟨gg, og + rd * 2, none⟩ = some (.int .i64 (s.f : Int)) /\ V.cell? ⟨gg, og + rd * 2 + 1, none⟩ = some (.slice s.A ns s.c) /\ V.cell? ⟨gk, ok, none⟩ = some (.int .i64 (q : Int)) /\ V.cell? ⟨gn, on + k * 13 + 9, none⟩ = some (.slice (some ⟨gk, ok, none⟩) nk d.kc) by
  have hbV : Below w.heap.size w V := hbW.trans (hV.mono hbW.size);have key : ∀ {a : Addr} {u : Value}, w.cell? a = some u -> V.cell? a = some u := fun {a u} hc => (World.cell?_of_block (hbV.block a.block (World.block_lt_of_cell? w _ hc))).trans hc
  exact ⟨key m0, key m1, key hck, key c9⟩)
 have HH := lh (aI (h.pr 1 hbW (by rw [hW, World.size_alloc]; exact nlr _)) (aI (hrow.stays hbW) (fun x hx => (hsets x hx).stays hbW)));have HWB := lh (aI hbW (aI ho10 hmb));have hnkI : (0 : Int) < (nk : Int) := (by omega);have r0 : (0 : Int) <= (rd : Int) := (by omega);have r1 : (rd : Int) < (n : Int) := (by omega);have hrb : rd < 1099511627776 := (by omega);clear h hd hv hq hd' hrow hsets hxl hn hzL hs hgl hA hcell hcw hkA hns hnk hzN hsm m0 m1 c9 hck hbW ho10 hmb;go_enter Tryz.func119, Tryz.ntmps119;go_upto_region 1 with fail;rw [<- hW];clear hW;go_cut [11, 12] from 16 to 25 (fun t11 t12 wx => t11 = .int .i64 (q : Int) /\ ∃ b : Nat, t12 = ptrV b /\ Hid (w.heap.size < b /\ Below W.heap.size W wx /\ wx.heap[b]? = some (.cells #[.int .i64 (s.f : Int), .slice s.A ns s.c] 68 (0, 0))))
 case first =>
  refine wp_region_heads (fun wx => wx.cell? ⟨gg, og + rd * 2, none⟩ = some (.int .i64 (s.f : Int)) /\ wx.cell? ⟨gg, og + rd * 2 + 1, none⟩ = some (.slice s.A ns s.c) /\ wx.cell? ⟨gk, ok, none⟩ = some (.int .i64 (q : Int)) /\ wx.cell? ⟨gn, on + k * 13 + 9, none⟩ = some (.slice (some ⟨gk, ok, none⟩) nk d.kc)) [0, 1, 2, 3, 4, 5, 6, 7, 8, 9] [10, 11, 12] [12] (by kernel_rfl) (by kernel_rfl) (by kernel_rfl) (fun c a d v w h => hq_body (P := Tryz.prog) (fn := Tryz.f119) c a d v w h) (by kernel_rfl) (HF.out _ (bD W 1)) ?_
  iterate 10
   refine heads_step (v := ?_) rfl (by rfl) (fun wx hSw => ?_) ?_;rotate_left
   ·obtain ⟨u0, u1, u2, u3⟩ := hSw;go_simp;try with_reducible rfl
   simp only [Act.put, List.setIfInBounds_toArray]
  refine heads_end ?_;refine tail_step rfl (fun K hK => ?_);go_simp;refine hK _ _ ⟨fun _ => HF.out _ ((bD W 1).alloc (nlr _) _), ?_⟩;clear hK K;try simp only [Act.put, List.setIfInBounds_toArray, List.set_cons_zero, List.set_cons_succ]
  refine tail_step rfl (fun K hK => ?_);go_simp;refine hK _ _ ⟨fun _ => HF.out _ ((bD W 1).alloc (nlr _) _), ?_⟩;clear hK K;try simp only [Act.put, List.setIfInBounds_toArray, List.set_cons_zero, List.set_cons_succ]
  refine tail_step rfl (fun K hK => ?_);go_simp;refine hK _ _ ⟨fun h => by simp at h, ?_⟩;clear hK K;try simp only [Act.put, List.setIfInBounds_toArray, List.set_cons_zero, List.set_cons_succ]
  refine tail_end ?_;go_wp2_with fail;go_meet
  case rel =>
   refine ⟨rfl, W.heap.size, rfl, lh ⟨?_, (bD W 1).alloc (nlr _) _, heap_alloc_new W _⟩⟩;have := lts HWB.out.2.1;exact this
 obtain ⟨rfl, b, rfl, HB⟩ := hcut;obtain ⟨b0, b1, _, _, bl⟩ := box_all HB.out.2.2;have hsfit := HH.out.2.2 s (List.mem_of_getElem? HX.out.1);have hsf : s.f <= F.N / 64 + 1 := (by have := hsfit.fits; omega);obtain ⟨f64, hf64⟩ : ∃ f, f = s.f * 64 := ⟨_, rfl⟩;have hsN := HP.out.2.2.2.2.2;have hSN := lh (since_is f64 (by omega) wc);rw [show f64 / 64 = s.f by omega] at hSN;unfold Ix.v at hSN;simp only [List.length_nil] at hSN;have HF64 := lh (aI hf64 hsf);have hwf : IntKind.i64.wrap ((s.f : Int) * 64) = (f64 : Int) := (by rw [hf64]; exact IntWalk.i64_in _ (by omega));clear hsfit hsf hf64 hsN;go_wp2_with fail;go_at_call 52;clear hwf;with_reducible refine hSN.out.mono ?_
 rintro e wS ⟨rfl, hbS⟩;have hwS : Below W.heap.size W wS := HB.out.2.1.trans (hbS.mono HB.out.2.1.size);have hFS := HH.out.1.below hwS;have hLF : LdF (Pr S w 1) fb F L (some ⟨gg, og, none⟩) xs s w.heap.size b wS := ⟨hFS, HH.out.2.1.stays hwS, fun x hx => (HH.out.2.2 x hx).stays hwS, bobj (HB.out.2.1.trans (hbS.mono HB.out.2.1.size)) HWB.out.2.1 (lts HWB.out.2.1), by rw [<- HX.out.2.2.2]; exact bobj hbS HB.out.2.2 (lts HB.out.2.2)⟩
 have hstp : Stp (Pr S w 1) fb F L (wS.alloc (.cells #[.int .i64 (s.f : Int), .slice none 0 0] 68)) wS.heap.size wS.heap.size ⟨s.f, [], none, 0⟩ := by
  refine ⟨hFS.priv (bW wS _) (fun j hj => .inl hj) (fun j hj => hj.imp_right fun e => by rw [tch_nil _ _ e]; exact nlr _) (fun j hj => ?_), OwnI.nil wS wS.heap.size s.f, by rw [World.size_alloc]; exact Nat.le_succ _, nlr _, fun j hj => hFS.old j hj, hFS.sm, hFS.sf, HF64.out.2⟩;rw [World.size_alloc];rcases hj with hj | hj
  ·exact Nat.lt_succ_of_lt (hFS.old j hj)
  ·rw [tch_nil _ _ hj]; exact Nat.lt_succ_self _
 have HL0 := lh (show Ld (Pr S w 1) fb F L wS.heap.size wS.heap.size (F.rel d'.t) d.x.lo z rd s.f s.mem gl wS (z + 1) (wS.alloc (.cells #[.int .i64 (s.f : Int), .slice none 0 0] 68)) ⟨s.f, [], none, 0⟩ from
  ⟨hstp, rfl, Turned.of_below (bW wS _), fun j _ => mem_nil _ rfl j, fun j hj => by
   rw [show (⟨s.f, [], none, 0⟩ : Ix).mem j = false from mem_nil _ rfl j];constructor
   ·intro h; cases h
   ·rintro ⟨_, h | h⟩ <;> omega⟩)
 have HLF := lh hLF;have HLFW := lh hwS
 have HBN := lh (show b ≠ F.mb /\ w.heap.size ≠ F.mb from by
  have := HB.out.1;have := HWB.out.2.2
  exact ⟨by omega, by omega⟩)
 clear hbS hwS hFS hLF hstp b0 b1 bl;go_upto_region 3 with fail;obtain ⟨W3, hW3⟩ : ∃ W, W = wS.alloc (.cells #[.int .i64 (s.f : Int), .slice none 0 0] 68) := ⟨_, rfl⟩;rw [<- hW3] at HL0 ⊢;clear hW3;have HFR := lh fun (V : World) (m : Nat) (y : Ix) (h : Ld (Pr S w 1) fb F L wS.heap.size wS.heap.size (F.rel d'.t) d.x.lo z rd s.f s.mem gl wS m V y) => HLF.out.go h.tur (nlr _) HBN.out.2 HBN.out.1 (h.stp.fin.weaken h.stp.sm h.stp.sf fun j hj => .inl hj);have hlf3 := HFR.out W3 _ _ HL0.out;obtain ⟨b0, b1, _, _, bl⟩ := box_all hlf3.o12;obtain ⟨hgnl, c5, c6⟩ := HC.out W3 hlf3.fin;rw [<- HX.out.2.2.2] at b1;have hhas := has_ix (hlf3.sets s (List.mem_of_getElem? HX.out.1)) (by have := HP.out.2.2.2.2.2; omega) z (by have := HP.out.2.2.2.2.1; have := HP.out.2.2.2.2.2; omega);unfold Ix.v at hhas;rw [<- HX.out.2.2.2] at hhas;have HHS := lh hhas;have HEM := lh fun (V : World) (hV : FindAt (Pr S w 1) V fb F L) => emptyAt_is hV HX.out.2.2.1 z HP.out.2.2.2.2.1;have HF3 := lh hlf3;clear hhas hlf3;obtain ⟨bz, hbz⟩ : ∃ bz, bz = (s.mem z && (decide (d.x.lo <= (rd : Int)) || F.rel d'.t z z)) := ⟨_, rfl⟩;have HBZ := lh hbz;clear hbz;go_cut [47] from 30 to 46 (fun t47 wx => t47 = .bool bz /\ Hid (Below W3.heap.size W3 wx))
 case first =>
  cases hsz : s.mem z
  ·have HSZ := lh hsz;rw [hsz] at HHS;go_wp2_with fail;go_at_call 57;with_reducible refine HHS.out.mono ?_
   rintro e w1 ⟨rfl, hb1⟩;have HB1 := lh hb1;clear hb1 hsz;go_wp2_with fail;go_meet
   case rel => exact ⟨by rw [HBZ.out, HSZ.out]; rfl, HB1⟩
  ·have HSZ := lh hsz;rw [hsz] at HHS;by_cases hlo : d.x.lo <= (rd : Int)
   ·have hlob : decide (d.x.lo <= (rd : Int)) = true := dqt hlo;go_wp2_with fail;go_at_call 57;with_reducible refine HHS.out.mono ?_
    rintro e w1 ⟨rfl, hb1⟩;have HB1 := lh hb1;obtain ⟨hgnl1, c51, c61⟩ := HC.out w1 (HF3.out.fin.below hb1);clear hb1 hsz hlo;go_wp2_with fail;go_meet
    case rel => exact ⟨by rw [HBZ.out, HSZ.out, hlob]; rfl, HB1⟩
   ·have hlob : decide (d.x.lo <= (rd : Int)) = false := dqf hlo;go_wp2_with fail;go_at_call 57;with_reducible refine HHS.out.mono ?_
    rintro e w1 ⟨rfl, hb1⟩;have HB1 := lh hb1;obtain ⟨hgnl1, c51, c61⟩ := HC.out w1 (HF3.out.fin.below hb1);have HE1 := lh (HEM.out w1 (HF3.out.fin.below hb1));clear hb1 hsz hlo;go_wp2_with fail;go_at_call 82;with_reducible refine HE1.out.mono ?_
    rintro e w2 ⟨rfl, hb2⟩;have HB2 := lh (HB1.out.trans (hb2.mono HB1.out.size));clear hb2;go_wp2_with fail;go_meet
    case rel => exact ⟨by rw [HBZ.out, HSZ.out, hlob]; rfl, HB2⟩
 obtain ⟨rfl, HBc⟩ := hcut;have HL4 := lh (HL0.out.below (HL0.out.stp.turned (HL0.out.stp.fin.below HBc.out) (Turned.of_below HBc.out)) (Turned.of_below HBc.out));clear b0 b1 bl hgnl c5 c6
 go_upto_if 47 with fail
 go_cut [] from 48 to 49 (fun wx => ∃ y, Hid (Ld (Pr S w 1) fb F L wS.heap.size wS.heap.size (F.rel d'.t) d.x.lo z rd s.f s.mem gl wS z wx y))
 case first =>
  cases bz
  ·have hb := HBZ.out.symm
   have HN := lh (show ¬ LdC (F.rel d'.t) d.x.lo z rd s.mem (gl (⟨s.f, [], none, 0⟩ : Ix).mem) z from by
    rintro ⟨h1, h2 | h2⟩
    ·rw [h1, Bool.true_and] at hb;rcases h2.2 with h3 | h3
     ·rw [dqt h3] at hb; cases hb
     ·rw [h3, Bool.or_true] at hb; cases hb
    ·omega)
   clear hb;go_wp2_with fail;go_meet
   case rel => exact ⟨_, lh (HL4.out.go_no HN.out)⟩
  ·have hb := HBZ.out.symm;rw [Bool.and_eq_true, Bool.or_eq_true, decide_eq_true_eq] at hb;have hfz := mem_f hb.1;have hadd := add_is HL4.out.stp.own HL4.out.stp.hB z hfz (by have := HP.out.2.2.2.2.1; have := HP.out.2.2.2.2.2; omega);have HAD := lh hadd;have HY := lh (aI (show LdC (F.rel d'.t) d.x.lo z rd s.mem (gl (⟨s.f, [], none, 0⟩ : Ix).mem) z from ⟨hb.1, .inl ⟨rfl, hb.2⟩⟩) hfz);clear hb hadd hfz;go_wp2_with fail;go_at_call 53;with_reducible refine HAD.out.mono ?_
   rintro e w5 ⟨rfl, ws', A', c', hO, hm, hl, hT, hkk⟩;have HL5 := lh (HL4.out.go_yes HX.out.2.1.ok HY.out.1 HP.out.2.2.2.2.1 HY.out.2 hO hm hl hT hkk);clear hO hm hl hT hkk;go_wp2_with fail;go_meet
   case rel => exact ⟨_, HL5⟩
 obtain ⟨y5, HL5⟩ := hcut;clear HL4 HBc;go_upto_region 5 with fail
 go_upto_block 0 with fail
 obtain ⟨W6, hW6⟩ : ∃ W, W = wc.alloc (.cells #[.int .i64 0, .slice none 0 0] 68) := ⟨_, rfl⟩;have hb56 : Below wc.heap.size wc W6 := (by rw [hW6]; exact bW wc _);obtain ⟨b51, hb51⟩ : ∃ b, b = wc.heap.size := ⟨_, rfl⟩;have ho51 : W6.heap[b51]? = some (.cells #[.int .i64 0, .slice none 0 0] 68 (0, 0)) := (by rw [hW6, hb51]; exact heap_alloc_new wc _);rw [<- hW6];clear hW6;have HL6 := lh (HL5.out.below (HL5.out.stp.turned (HL5.out.stp.fin.below hb56) (Turned.of_below hb56)) (Turned.of_below hb56));have HO51 := lh ho51;clear hb56 ho51;have HLF6 := lh (HFR.out W6 _ _ HL6.out);obtain ⟨hgnl, c5, c6⟩ := HC.out W6 HLF6.out.fin
 have HOB := lh fun (V : World) (m : Nat) (y : Ix) (h : Ld (Pr S w 1) fb F L wS.heap.size wS.heap.size (F.rel d'.t) d.x.lo z rd s.f s.mem gl wS m V y) (ho : V.heap[b51]? = some (.cells #[.int .i64 0, .slice none 0 0] 68 (0, 0))) => (show ¬ Tch wS.heap.size y b51 from by
  have h5 : wS.heap.size < b51 := (by rw [hb51]; exact World.block_lt_of_cell? wc ⟨wS.heap.size, 0, none⟩ HL5.out.stp.own.c0);rintro (e | e)
  ·omega
  ·exact own_ne h.stp.own.row e ho (by decide) rfl)
 have HGP := lh fun (V : World) (m : Nat) (y : Ix) (h : Ld (Pr S w 1) fb F L wS.heap.size wS.heap.size (F.rel d'.t) d.x.lo z rd s.f s.mem gl wS m V y) (ho : V.heap[b51]? = some (.cells #[.int .i64 0, .slice none 0 0] 68 (0, 0))) => (show
   (rd + 1 < n -> ∃ x', xs[rd + 1]? = some x' /\ (∀ B, gl B = x'.mem) /\ (∀ e, x'.mem e = true -> e <= z) /\ V.cell? ⟨gg, og + (rd + 1) * 2, none⟩ = some (.int .i64 (x'.f : Int)) /\ V.cell? ⟨gg, og + (rd + 1) * 2 + 1, none⟩ = some (.slice x'.A x'.ws.length x'.c) /\ IxAt (· = F.mb) F.N V x') from fun hlt => by
  obtain ⟨x', e1, e2, e3⟩ := HX.out.2.1.nxt hlt;have hl := HFR.out V m y h;obtain ⟨g', o', e, _, a0, a1⟩ := ixs_cell hl.row e1;cases e
  exact ⟨x', e1, e2, e3, a0, a1, hl.sets x' (List.mem_of_getElem? e1)⟩)
 obtain ⟨GP, hGP⟩ : ∃ GP : Nat -> Nat -> Prop, GP = fun gb go => ∀ (V : World) (m : Nat) (y : Ix), Ld (Pr S w 1) fb F L wS.heap.size wS.heap.size (F.rel d'.t) d.x.lo z rd s.f s.mem gl wS m V y -> V.heap[b51]? = some (.cells #[.int .i64 0, .slice none 0 0] 68 (0, 0)) ->
   ∃ gi : Ix, V.cell? ⟨gb, go, none⟩ = some (.int .i64 (gi.f : Int)) /\ V.cell? ⟨gb, go + 1, none⟩ = some (.slice gi.A gi.ws.length gi.c) /\ IxAt (fun _ => False) F.N V gi /\ gi.mem = gl y.mem /\ ∀ e, gi.mem e = true -> e <= z := ⟨_, rfl⟩
 have HGPD := lh hGP
 have hlez : ∀ (V : World) (m : Nat) (y : Ix), Ld (Pr S w 1) fb F L wS.heap.size wS.heap.size (F.rel d'.t) d.x.lo z rd s.f s.mem gl wS m V y -> ∀ e, y.mem e = true -> e <= z := fun V m y h e he => by
  rcases Nat.lt_or_ge e m with e1 | e1
  ·rw [h.no e e1] at he; cases he
  ·rcases ((h.is e e1).1 he).2 with h2 | h2 <;> omega
 have HLEZ := lh hlez;obtain ⟨n1, hn1⟩ : ∃ n1, n1 = n - 1 := ⟨_, rfl⟩;obtain ⟨rd1, hrd1⟩ : ∃ r, r = rd + 1 := ⟨_, rfl⟩;have HRN := lh (aI hn1 hrd1);have hnb : n <= 1000001 := HP.out.2.2.1;clear hGP hlez;have h51l := lts HO51.out;have h13l : wS.heap.size < W6.heap.size := World.block_lt_of_cell? W6 ⟨wS.heap.size, 0, none⟩ HL6.out.stp.own.c0;go_cut [14] from 52 to 68 (fun t14 wx => wx = W6 /\ ∃ gb go : Nat, t14 = .pointer (some ⟨gb, go, none⟩) /\ Hid (GP gb go))
 case first =>
  by_cases hlt : rd + 1 < n
  ·have hd1 : decide ((rd : Int) < (n : Int) - 1) = true := dqt (by omega);have hd3 : (rd : Int) < (n : Int) - 1 := (by omega);have r2 : (rd : Int) + 1 < (n : Int) := (by omega);have r3 : rd + 1 < n := (by omega);have r4 : (0 : Int) <= (rd : Int) + 1 := (by omega)
   have HG := lh (show GP gg (og + (rd + 1) * 2) from by
    rw [HGPD.out];intro V m y h ho;obtain ⟨x', e1, e2, e3, e4, e5, e6⟩ := HGP.out V m y h ho hlt
    exact ⟨x', e4, e5, e6.weaken fun _ hf => hf.elim, (e2 _).symm, e3⟩)
   clear hn1 hrd1 hlt;go_wp2_with fail;go_meet
   case rel => exact ⟨rfl, gg, og + (rd + 1) * 2, rfl, HG⟩
  ·have hd1 : decide ((rd : Int) < (n : Int) - 1) = false := dqf (by omega);have hd3 : ¬ (rd : Int) < (n : Int) - 1 := (by omega);by_cases hhi : d.x.hi < 0
   ·have hd2 : decide (d.x.hi < 0) = true := dqt hhi
    have HG := lh (show GP wS.heap.size 0 from by
     rw [HGPD.out];intro V m y h ho
     exact ⟨y, h.stp.own.c0, h.stp.own.c1, own_ix (S := fun _ => False) h.stp.own.row (fun k hk => hk.elim) h.stp.own.ok h.stp.fits, (HX.out.2.1.self hlt hhi _).symm, HLEZ.out V m y h⟩)
    clear hn1 hrd1 hlt hhi;go_wp2_with fail;go_meet
    case rel => exact ⟨rfl, wS.heap.size, 0, rfl, HG⟩
   ·have hd2 : decide (d.x.hi < 0) = false := dqf hhi
    have HG := lh (show GP b51 0 from by
     rw [HGPD.out];intro V m y h ho;refine ⟨⟨0, [], none, 0⟩, by rw [obc ho]; rfl, by rw [obc ho]; rfl, ⟨.nil _ _ _, nlr _, (fun m h => by cases h), Nat.zero_le _⟩, ?_, fun e he => ?_⟩
     ·rw [HX.out.2.1.none hlt hhi];exact funext fun j => mem_nil _ rfl j
     ·rw [show (⟨0, [], none, 0⟩ : Ix).mem e = false from mem_nil _ rfl e] at he
      cases he)
    clear hn1 hrd1 hlt hhi;go_wp2_with fail;go_meet
    case rel => exact ⟨rfl, wc.heap.size, 0, rfl, by rw [<- hb51]; exact HG⟩
 obtain ⟨rfl, gb, go, rfl, HG⟩ := hcut;clear hgnl c5 c6 hn1 hrd1;obtain ⟨q0, hq0⟩ : ∃ q0, q0 = (z : Int) - 1 := ⟨_, rfl⟩;have hwq : IntKind.i64.wrap ((z : Int) - 1) = q0 := (by rw [hq0]; exact IntWalk.i64_in _ (by have := HP.out.2.2.2.2.1; have := HP.out.2.2.2.2.2; omega));have HQ0 := lh hq0;clear hq0;go_upto_region 11 with fail;clear hwq;go_loopw [15] (fun iv wr => ∃ (qv : Int) (m : Nat) (y : Ix), iv = .int .i64 qv /\ Hid (qv = (m : Int) - 1 /\ m <= z) /\ Hid (Ld (Pr S w 1) fb F L wS.heap.size wS.heap.size (F.rel d'.t) d.x.lo z rd s.f s.mem gl wS m wr y /\ wr.heap[b51]? = some (.cells #[.int .i64 0, .slice none 0 0] 68 (0, 0)))) (fun iv _ => (intOf iv + 1).toNat)
 case atStart => exact ⟨q0, z, y5, rfl, lh ⟨HQ0.out, nlr _⟩, lh ⟨HL6.out, HO51.out⟩⟩
 case round =>
  obtain ⟨qv, m, y, rfl, HQM, HY⟩ := hrel;have hlf := HFR.out wr m y HY.out.1;obtain ⟨b0, b1, _, _, bl⟩ := box_all hlf.o12;rw [<- HX.out.2.2.2] at b1
  have HWF := lh (show IntKind.i64.wrap ((s.f : Int) * 64) = (f64 : Int) by
   rw [HF64.out.1]
   exact IntWalk.i64_in _ (by have := HF64.out.2; have := HP.out.2.2.2.2.2; omega))
  have HLFr := lh hlf;clear hlf;by_cases hge : (f64 : Int) <= qv
  ·obtain ⟨i, hi⟩ : ∃ i : Nat, qv = (i : Int) := ⟨qv.toNat, by omega⟩;subst hi;have hm : m = i + 1 := (by have := HQM.out.1; omega);subst hm;have hiz : i < z := (by have := HQM.out.2; omega);obtain ⟨gi, hg0, hg1, hgx, hgm, hgz⟩ := (HGPD.out ▸ HG.out) wr (i + 1) y HY.out.1 HY.out.2;obtain ⟨ni, hni⟩ : ∃ n, n = gi.ws.length := ⟨_, rfl⟩;rw [<- hni] at hg1;have hiN : i <= F.N := (by have := HP.out.2.2.2.2.1; omega);have hhas := has_ix (HLFr.out.sets s (List.mem_of_getElem? HX.out.1) |>.stays (bD wr 1)) (by have := HP.out.2.2.2.2.2; omega) i (by have := HP.out.2.2.2.2.2; omega);unfold Ix.v at hhas;rw [<- HX.out.2.2.2] at hhas;have HHS := lh hhas;have hgb : decide ((f64 : Int) <= (i : Int)) = true := dqt hge;have hgb2 : decide (f64 <= i) = true := dqt (by omega);obtain ⟨q1, hq1⟩ : ∃ q1, q1 = (i : Int) - 1 := ⟨_, rfl⟩;have HWI := lh (show IntKind.i64.wrap ((i : Int) - 1) = q1 by rw [hq1]; exact IntWalk.i64_in _ (by have := HP.out.2.2.2.2.2; omega));have HI := lh (aI hiz (aI hiN (aI hq1 (aI hni (aI hgx (aI hgm (aI hgz hge)))))))
   have HSP := lh fun (V : World) (ht : Turned (· = F.mb) wr V) => (show V.cell? ⟨b, 0, none⟩ = some (.int .i64 (s.f : Int)) /\ V.cell? ⟨b, 1, none⟩ = some (.slice s.A ns s.c) /\ V.cell? ⟨gb, go, none⟩ = some (.int .i64 (gi.f : Int)) /\ V.cell? ⟨gb, go + 1, none⟩ = some (.slice gi.A ni gi.c) from by
    have hm1 : b ≠ F.mb := HBN.out.1;have hb12 := ht.obj HLFr.out.o12 hm1;have hgt : ∀ {a : Addr} {u : Value}, wr.cell? a = some u -> a.block ≠ F.mb -> V.cell? a = some u := fun {a u} hc hn => ht.cell hc hn
    have hgbn : gb ≠ F.mb := fun e => by
     obtain ⟨es, cc, hmap, _⟩ := HLFr.out.fin.kept;rw [e] at hg0;simp [World.cell?, hmap] at hg0
    refine ⟨by rw [obc hb12]; rfl, by rw [obc hb12, HX.out.2.2.2]; rfl, hgt hg0 hgbn, hgt hg1 hgbn⟩)
   have hS0 := HSP.out wr.drew (Turned.of_below (bD wr 1));have hm2 : HQM = HQM := rfl;clear hq1 hhas hni hgx hgm hgz hg0 hg1 hge hiN hiz hm2;have hwf := HWF.out;go_upto_region 13 with fail;clear hwf hgb hgb2 b0 b1 bl;refine wp_region_G (fun wx => wx.cell? ⟨b, 0, none⟩ = some (.int .i64 (s.f : Int)) /\ wx.cell? ⟨b, 1, none⟩ = some (.slice s.A ns s.c) /\ wx.cell? ⟨gb, go, none⟩ = some (.int .i64 (gi.f : Int)) /\ wx.cell? ⟨gb, go + 1, none⟩ = some (.slice gi.A ni gi.c)) [14] (by kernel_rfl) ?_;refine anyG_heads [0, 1] (n := 13) (by kernel_rfl) (fun c a d v w h => hq_body (P := Tryz.prog) (fn := Tryz.f119) c a d v w h) hS0 (by kernel_rfl) (by kernel_rfl) ?_
   iterate 2
    refine heads_step (v := ?_) rfl (by rfl) (fun wx hSw => ?_) ?_;rotate_left
    ·obtain ⟨u0, u1, u2, u3⟩ := hSw;go_simp;try with_reducible rfl
    simp only [Act.put, List.setIfInBounds_toArray]
   refine heads_end ?_;refine anyG_tail1 (k := 2) (by kernel_rfl) ?_;refine wpOp_step rfl (fun K hK => ?_);go_simp;refine HHS.out.mono ?_;rintro e w2 ⟨rfl, hb2⟩;have HB2 := lh ((bD wr 1).trans hb2);have hS2 := HSP.out w2 (Turned.of_below ((bD wr 1).trans hb2));refine hK _ _ ⟨fun _ => hS2, ?_⟩;clear hK K hb2 hS0;try simp only [Act.put, List.setIfInBounds_toArray, List.set_cons_zero, List.set_cons_succ]
   cases hsi : s.mem i
   ·have HN := lh (show ¬ LdC (F.rel d'.t) d.x.lo z rd s.mem (gl y.mem) i from fun h => by
     have h1 := h.1;rw [hsi] at h1
     cases h1)
    clear hsi;refine anyG_heads [3, 4, 5, 6, 7, 8, 9, 10, 11, 12, 13] (n := 1) (by kernel_rfl) (fun c a d v w h => hq_body (P := Tryz.prog) (fn := Tryz.f119) c a d v w h) hS2 (by kernel_rfl) (by kernel_rfl) ?_;refine heads_step' (v := ?_) rfl rfl (by rfl) (fun wx hSw => ?_) ?_;rotate_left
    ·go_simp;try with_reducible rfl
    simp only [Act.put, List.setIfInBounds_toArray, List.set_cons_zero, List.set_cons_succ]
    iterate 10
     refine heads_skip' rfl rfl (by kernel_rfl) ?_;simp only [Act.put, List.setIfInBounds_toArray, List.set_cons_zero, List.set_cons_succ]
    refine heads_end ?_;refine anyG_tail1 (k := 14) (by kernel_rfl) ?_;refine wpOp_step rfl (fun K hK => ?_);go_simp;refine hK _ _ ⟨fun h => by simp at h, ?_⟩;clear hK K hS2;try simp only [Act.put, List.setIfInBounds_toArray, List.set_cons_zero, List.set_cons_succ]
    refine anyG_end (by kernel_rfl) ?_;have hst := HY.out.1.stp.turned (HY.out.1.stp.fin.below HB2.out) (Turned.of_below HB2.out);have HL := lh (aI ((HY.out.1.below hst (Turned.of_below HB2.out)).go_no HN.out) (bobj HB2.out HY.out.2 (lts HY.out.2)));clear hst;have hwi := HWI.out;go_wp2_with fail;go_roundw
    case rel => exact ⟨q1, i, y, rfl, lh ⟨HI.out.2.2.1, Nat.le_of_lt HI.out.1⟩, HL⟩
    case measure =>
     clear hwi;have := HI.out.2.2.1;show (q1 + 1).toNat < ((i : Int) + 1).toNat;omega
   ·have HSI := lh hsi;clear hsi;have HOI := lh (only_is i F.N HI.out.2.1 (by have := HP.out.2.2.2.2.2; omega) w2);refine anyG_heads [3, 4, 5, 6, 9, 10, 11] (n := 5) (by kernel_rfl) (fun c a d v w h => hq_body (P := Tryz.prog) (fn := Tryz.f119) c a d v w h) hS2 (by kernel_rfl) (by kernel_rfl) ?_
    iterate 7
     refine heads_step' (v := ?_) rfl rfl (by kernel_rfl) (fun wx hSw => ?_) ?_;rotate_left
     ·obtain ⟨u0, u1, u2, u3⟩ := hSw;go_simp;try with_reducible rfl
     simp only [Act.put, List.setIfInBounds_toArray, List.set_cons_zero, List.set_cons_succ]
    refine heads_end ?_;refine anyG_tail1 (k := 7) (by kernel_rfl) ?_;refine wpOp_step rfl (fun K hK => ?_);go_simp;refine HOI.out.mono ?_;rintro e wA ⟨xi, he, hmi, hbA⟩;obtain ⟨nj, hnj⟩ : ∃ n, n = xi.ws.length := ⟨_, rfl⟩;have hvi : xi.v = .agg #[.int .i64 (xi.f : Int), .slice xi.A nj xi.c] := (by unfold Ix.v; rw [hnj]);rw [hvi] at he;subst he;have hb0A := HB2.out.trans (hbA.mono HB2.out.size);have hxi : xi.mem = onlyB i := funext fun j => by rw [hmi.is j]; rfl
    have hfA := HY.out.1.stp.fin.below hb0A;have hea := long_all q _ wA L i xi d' ⟨hfA, hmi.at'.weaken fun j hj => (HY.out.1.stp.fin.below HB2.out).old j hj, fun j hj => by rw [hxi, onlyB_iff] at hj; rw [hj]; exact HI.out.2.1, hmi.low⟩ HX.out.2.2.1;rw [hvi] at hea;have HEA := lh hea;have HA := lh (aI hb0A hxi);have hSA := HSP.out wA (Turned.of_below hb0A);refine hK _ _ ⟨fun _ => hSA, ?_⟩;clear hK K hmi hbA hnj hvi hb0A hxi hfA hea hSA hS2;try simp only [Act.put, List.setIfInBounds_toArray, List.set_cons_zero, List.set_cons_succ]
    refine anyG_tail1 (k := 8) (by kernel_rfl) ?_;refine wpOp_step rfl (fun K hK => ?_);go_simp;with_reducible refine HEA.out.mono ?_
    rintro e wB ⟨X, he, hg⟩;obtain ⟨nX, hnX⟩ : ∃ n, n = X.ws.length := ⟨_, rfl⟩;have hvX : X.v = .agg #[.int .i64 (X.f : Int), .slice X.A nX X.c] := (by unfold Ix.v; rw [hnX]);rw [hvX] at he;subst he;have htB : Turned (· = F.mb) wr wB := turBT HA.out.1 hg.tur;have hstB := HY.out.1.stp.turned hg.fin htB;have hSB := HSP.out wB htB;obtain ⟨es, cc, hmap, _⟩ := HLFr.out.fin.kept;have hlast := last_ix (w := wB) hg.at' ((HI.out.2.2.2.2.1.map hmap).turned htB) (by have := HP.out.2.2.2.2.2; omega);rw [hvX] at hlast;unfold Ix.v at hlast;rw [<- HI.out.2.2.2.1] at hlast;have HL := lh hlast;have hX := hg.is;rw [HA.out.2] at hX;have HB := lh (aI htB (aI hstB hX));refine hK _ _ ⟨fun _ => hSB, ?_⟩;clear hK K hg hnX hvX htB hstB hSB hlast hX hmap;try simp only [Act.put, List.setIfInBounds_toArray, List.set_cons_zero, List.set_cons_succ]
    refine anyG_tail1 (k := 12) (by kernel_rfl) ?_;refine wpOp_step rfl (fun K hK => ?_);go_simp;refine HL.out.mono ?_;rintro e wC ⟨q2, rfl, hl2, hbC⟩;have hex := ends_ex HB.out.2.2 (fun e he => Nat.le_trans (HI.out.2.2.2.2.2.2.1 e he) HP.out.2.2.2.1) hl2;rw [HI.out.2.2.2.2.2.1] at hex;have htC := turB HB.out.1 hbC;have hstC := HB.out.2.1.turned (HB.out.2.1.fin.below hbC) (Turned.of_below hbC);have HC2 := lh (aI hex (aI hstC htC));have hSC := HSP.out wC htC;refine hK _ _ ⟨fun _ => hSC, ?_⟩;clear hK K hl2 hbC hex hstC htC;try simp only [Act.put, List.setIfInBounds_toArray, List.set_cons_zero, List.set_cons_succ]
    by_cases hq2 : 0 <= q2
    ·have hq2b : decide (0 <= q2) = true := dqt hq2;have hfi := mem_f HSI.out;have hadd := add_is HC2.out.2.1.own HC2.out.2.1.hB i (by rw [HY.out.1.fy]; exact hfi) (by have := HP.out.2.2.2.2.2; have := HI.out.2.1; omega);have HAD := lh hadd;have HYE := lh (show LdC (F.rel d'.t) d.x.lo z rd s.mem (gl y.mem) i from ⟨HSI.out, .inr ⟨HI.out.1, HC2.out.1.1 hq2⟩⟩);have HFI := lh hfi;clear hadd hq2 hfi;refine anyG_tail1 (k := 13) (by kernel_rfl) ?_;refine wpOp_step rfl (fun K hK => ?_);go_simp;refine hK _ _ ⟨fun _ => hSC, ?_⟩;clear hK K;try simp only [Act.put, List.setIfInBounds_toArray, List.set_cons_zero, List.set_cons_succ]
     refine anyG_tail1 (k := 14) (by kernel_rfl) ?_;refine wpOp_step rfl (fun K hK => ?_);go_simp;refine hK _ _ ⟨fun h => by simp at h, ?_⟩;clear hK K;try simp only [Act.put, List.setIfInBounds_toArray, List.set_cons_zero, List.set_cons_succ]
     refine anyG_end (by kernel_rfl) ?_;go_wp2_with fail;go_at_call 53;with_reducible refine HAD.out.mono ?_
     rintro e wD ⟨rfl, ws', A', c', hO, hm, hl, hT, hkk⟩;have hL2 := (HY.out.1.below HC2.out.2.1 HC2.out.2.2).go_yes HX.out.2.1.ok HYE.out HI.out.2.1 HFI.out hO hm hl hT hkk
     have ho2 := HC2.out.2.2.obj HY.out.2 (fun e => by
      obtain ⟨es, cc, hmap, _⟩ := HLFr.out.fin.kept;have h1 := HY.out.2;rw [e, hmap] at h1
      cases h1)
     have ho3 := hT.obj ho2 (HOB.out wC (i + 1) y (HY.out.1.below HC2.out.2.1 HC2.out.2.2) ho2);have HL := lh (aI hL2 ho3);clear hO hm hl hT hkk hL2 ho2 ho3;have hwi := HWI.out;go_wp2_with fail;go_roundw
     case rel => exact ⟨q1, i, _, rfl, lh ⟨HI.out.2.2.1, Nat.le_of_lt HI.out.1⟩, HL⟩
     case measure =>
      clear hwi;have := HI.out.2.2.1;show (q1 + 1).toNat < ((i : Int) + 1).toNat;omega
    ·have hq2b : decide (0 <= q2) = false := dqf hq2
     have HN := lh (show ¬ LdC (F.rel d'.t) d.x.lo z rd s.mem (gl y.mem) i from by
      rintro ⟨_, h | h⟩
      ·have := HI.out.1; omega
      ·exact hq2 (HC2.out.1.2 h.2))
     clear hq2;refine anyG_tail1 (k := 13) (by kernel_rfl) ?_;refine wpOp_step rfl (fun K hK => ?_);go_simp;refine hK _ _ ⟨fun _ => hSC, ?_⟩;clear hK K;try simp only [Act.put, List.setIfInBounds_toArray, List.set_cons_zero, List.set_cons_succ]
     refine anyG_tail1 (k := 14) (by kernel_rfl) ?_;refine wpOp_step rfl (fun K hK => ?_);go_simp;refine hK _ _ ⟨fun h => by simp at h, ?_⟩;clear hK K;try simp only [Act.put, List.setIfInBounds_toArray, List.set_cons_zero, List.set_cons_succ]
     refine anyG_end (by kernel_rfl) ?_
     have ho2 := HC2.out.2.2.obj HY.out.2 (fun e => by
      obtain ⟨es, cc, hmap, _⟩ := HLFr.out.fin.kept;have h1 := HY.out.2;rw [e, hmap] at h1
      cases h1)
     have HL := lh (aI ((HY.out.1.below HC2.out.2.1 HC2.out.2.2).go_no HN.out) ho2);clear ho2;have hwi := HWI.out;go_wp2_with fail;go_roundw
     case rel => exact ⟨q1, i, y, rfl, lh ⟨HI.out.2.2.1, Nat.le_of_lt HI.out.1⟩, HL⟩
     case measure =>
      clear hwi;have := HI.out.2.2.1;show (q1 + 1).toNat < ((i : Int) + 1).toNat;omega
  ·have hgb : decide ((f64 : Int) <= qv) = false := dqf hge
   have hlead : LeadR (F.rel d'.t) d.x.lo z rd s.mem y.mem (gl y.mem) := fun e => by
    rcases Nat.lt_or_ge e m with e1 | e1
    ·rw [HY.out.1.no e e1];constructor
     ·intro h; cases h
     ·rintro ⟨h1, _⟩;have h2 := mem_f h1;have h3 := HF64.out.1;have h4 := HQM.out.1;omega
    ·exact HY.out.1.is e e1
   obtain ⟨ny, hny⟩ : ∃ n, n = y.ws.length := ⟨_, rfl⟩;have g0 := HY.out.1.stp.own.c0;have g1 := HY.out.1.stp.own.c1;rw [<- hny] at g1;have gl' : wS.heap.size < wr.heap.size := World.block_lt_of_cell? wr ⟨wS.heap.size, 0, none⟩ g0;obtain ⟨t0, t1, t2, t3, t4⟩ := box_all HLFr.out.o10;obtain ⟨hp1, hp2⟩ := put_two (u' := .int .i64 (y.f : Int)) (v' := .slice y.A ny y.c) HLFr.out.o10;have hyx : IxAt (Pr S w 1) F.N wr y := (HY.out.1.stp.own.ix HY.out.1.stp.fits).weaken fun j hj => HY.out.1.stp.hS j hj;have hPr : ∀ j, j = w.heap.size -> Pr S w 1 j := fun j e => .inr (by omega);have hfin := HLFr.out.fin.go hp2 (fun j hj _ => ⟨hPr j hj, by rw [hj]; exact HBN.out.2, by rw [hj]; have := lts HH0.out.obj; omega⟩) (.inl HH0.out.sm) (.inl HH0.out.sf) (fun j hj => .inl hj) fun j hj => Nat.lt_of_lt_of_le (HLFr.out.fin.old j hj) hp2.size
   have htot : Turned (· = F.mb) w ((wr.setCell ⟨w.heap.size, 0, none⟩ (.int .i64 (y.f : Int))).setCell ⟨w.heap.size, 1, none⟩ (.slice y.A ny y.c)) := by
    have hwS := HWB.out.1.trans ((HLFW.out).mono HWB.out.1.size);have h1 : Turned (fun j => j = F.mb \/ wS.heap.size <= j) w wr := (Turned.of_below (S := fun j => j = F.mb \/ wS.heap.size <= j) hwS).trans HY.out.1.tur fun _ _ h => h;have h2 : Turned (· = F.mb) w wr := ⟨h1.os, h1.tape, h1.output, h1.size, fun j hj hn => h1.block j hj fun e => e.elim hn fun e => by have := hwS.size; omega⟩;exact turS h2 hp2 (nlr _)
   have HPP := lh (show LeadE S fb F L (F.rel d'.t) d.x.lo z rd s.mem gl w (.returned (.agg #[.int .i64 (y.f : Int), .slice y.A ny y.c])) ((wr.setCell ⟨w.heap.size, 0, none⟩ (.int .i64 (y.f : Int))).setCell ⟨w.heap.size, 1, none⟩ (.slice y.A ny y.c)) from
    ⟨y, by unfold Ix.v; rw [hny], (hyx.turned (turned_mono hp2 hPr)).weaken fun j hj => .inl hj, hlead, hfin.weaken HH0.out.sm HH0.out.sf fun j hj => .inl hj, htot⟩)
   clear hge hlead hny hp1 hp2 hyx hPr hfin htot;have hwf := HWF.out;go_wp2_with fail;refine bodyPost_ret (v := .agg #[.int .i64 (y.f : Int), .slice y.A ny y.c]) (by simp [results, Tryz.results119, go_sem, t0, t1]) rfl HPP.out
end Go.Proofs.YtflkfleihlceeaaGreatDoor
namespace Go.Proofs.YtflkfleihlceeaaGreatDoor.J
open Go.RowKit Go.Deep Go.Sort Go.Proofs.YtflkfleihlceeaaGreatDoor
variable {o : Nat} {cs0 : Array Value} {T0 : TypeId}
def RowO (o : Nat) (cs0 : Array Value) (T0 : TypeId) (w : World) (p : Nat) : Prop := ∃ cs, w.heap[p]? = some (.cells cs T0 (0, 0)) /\ cs.size = cs0.size /\ ∀ j, j ≠ o -> j ≠ o + 1 -> cs[j]? = cs0[j]?
theorem RowO.same {w w' : World} {p : Nat} (h : RowO o cs0 T0 w p) (e : w'.heap[p]? = w.heap[p]?) : RowO o cs0 T0 w' p := by
 obtain ⟨cs, h1, h2⟩ := h;exact ⟨cs, e.trans h1, h2⟩
theorem RowO.put {w : World} {p : Nat} (h : RowO o cs0 T0 w p) {j : Nat} (hj : j = o \/ j = o + 1) (v : Value) : RowO o cs0 T0 (w.setCell ⟨p, j, none⟩ v) p := by
 obtain ⟨cs, h1, h2, h3⟩ := h;refine ⟨cs.setIfInBounds j v, heap_setCell_same w p j cs T0 v h1, by simpa using h2, fun i a b => ?_⟩;rw [<- h3 i a b, Array.getElem?_setIfInBounds_ne (by omega)]
theorem RowO.far {w : World} {p g : Nat} (h : RowO o cs0 T0 w p) (hg : g ≠ p) (j : Nat) (v : Value) : RowO o cs0 T0 (w.setCell ⟨g, j, none⟩ v) p :=
 h.same (heap_setCell_other w ⟨g, j, none⟩ p v fun e => hg e.symm)
structure OwnI (o : Nat) (cs0 : Array Value) (T0 : TypeId) (w : World) (B p : Nat) (x : Ix) : Prop where
 c0 : w.cell? ⟨p, o, none⟩ = some (.int .i64 (x.f : Int))
 c1 : w.cell? ⟨p, o + 1, none⟩ = some (.slice x.A x.ws.length x.c)
 f0 : w.frozen? ⟨p, o, none⟩ = false
 f1 : w.frozen? ⟨p, o + 1, none⟩ = false
 row : w.ownsRow B 23 1 (.slice x.A x.ws.length x.c) x.ws.length (wsV x.ws)
 ok : OkW x.ws
 ne : ∀ g, x.sl.ownBlock = some g -> g ≠ p
 obj : RowO o cs0 T0 w p
def GrowC (o : Nat) (cs0 : Array Value) (T0 : TypeId) (B p : Nat) (x : Ix) (n : Nat) (w : World) (e : Ending) (w' : World) : Prop := e = .returned (.tuple #[]) /\ ∃ A' c', OwnI o cs0 T0 w' B p ⟨x.f, x.ws ++ List.replicate (n - x.ws.length) 0, A', c'⟩ /\ Turned (Tch p x) w w' ∧
 ∀ k, (Ix.sl ⟨x.f, x.ws ++ List.replicate (n - x.ws.length) 0, A', c'⟩).ownBlock = some k -> x.sl.ownBlock = some k \/ w.heap.size <= k
theorem grow_post {w w' : World} {B p : Nat} {x : Ix} (HO : OwnI o cs0 T0 w B p x) {n m k : Nat} (hk : k = n - m) (hm : m = x.ws.length) (hpl : p < w.heap.size) (hpn : some p ≠ (Value.slice x.A m x.c).ownBlock) {A' : Option Addr} {c' : Nat}
  (hown : w'.ownsRow B 23 1 (.slice A' (m + k) c') (m + k) (wsV x.ws ++ List.replicate k Z64)) (hgr : w.drew.grownBy w' (Value.slice x.A m x.c).ownBlock) (hkk : ∀ j, (Value.slice A' (m + k) c').ownBlock = some j -> (Value.slice x.A m x.c).ownBlock = some j \/ w.drew.heap.size <= j)
  (d0 : w'.cell? ⟨p, o, none⟩ = some (.int .i64 (x.f : Int))) (g0 : w'.frozen? ⟨p, o, none⟩ = false) (d1 : w'.cell? ⟨p, o + 1, none⟩ = some (.slice x.A m x.c)) (g1 : w'.frozen? ⟨p, o + 1, none⟩ = false) :
  ∃ A2 c'', OwnI o cs0 T0 (w'.setCell ⟨p, o + 1, none⟩ (.slice A' (m + k) c')) B p ⟨x.f, x.ws ++ List.replicate (n - x.ws.length) 0, A2, c''⟩ /\ Turned (Tch p x) w (w'.setCell ⟨p, o + 1, none⟩ (.slice A' (m + k) c')) ∧
   ∀ k, (Ix.sl ⟨x.f, x.ws ++ List.replicate (n - x.ws.length) 0, A2, c''⟩).ownBlock = some k -> x.sl.ownBlock = some k \/ w.heap.size <= k := by
 subst hm;rw [wsV_zeros] at hown;rw [<- hk];have hlen : (x.ws ++ List.replicate k 0).length = x.ws.length + k := (by simp)
 have hne : ∀ g, (Value.slice A' (x.ws.length + k) c').ownBlock = some g -> g ≠ p := fun g hg => by
  rcases hkk g hg with h | h
  ·exact HO.ne g h
  ·intro e;rw [e] at h;exact absurd hpl (Nat.not_lt.2 h)
 have ht : Turned (· = p) w' (w'.setCell ⟨p, o + 1, none⟩ (.slice A' (x.ws.length + k) c')) := (Turned.refl (· = p) w').put' rfl (o + 1) _;refine ⟨A', c', ⟨by simp [go_sem, d0], by simp [go_sem, d1, hlen], by simp [go_sem, g0], by simp [go_sem, g1], ?_, HO.ok.zeros k, ?_, ((HO.obj).same (hgr.block p hpl hpn)).put (.inr rfl) _⟩, ?_, ?_⟩
 ·show (w'.setCell ⟨p, o + 1, none⟩ (.slice A' (x.ws.length + k) c')).ownsRow B 23 1 (.slice A' (x.ws ++ List.replicate k 0).length c') (x.ws ++ List.replicate k 0).length (wsV (x.ws ++ List.replicate k 0));rw [hlen];exact ownsRow_turned hown ht fun g hg => hne g hg
 ·intro g hg;unfold Ix.sl at hg;simp only [hlen] at hg;exact hne g hg
 ·refine Turned.trans (S := Tch p x) (T := fun j => j = p) ⟨hgr.os, hgr.tape, hgr.output, hgr.size, fun j hj hn => ?_⟩ ht fun j _ hj => .inl hj;exact hgr.block j hj fun e => hn (.inr e.symm)
 ·intro j hj;unfold Ix.sl at hj;simp only [hlen] at hj;exact hkk j hj
set_option maxRecDepth 100000 in
theorem grow_is {w : World} {B p : Nat} {x : Ix} (h : OwnI o cs0 T0 w B p x) (hB : B <= w.heap.size) (n : Nat) (hn : n <= 1099511627776) : Calls Tryz.prog 83 #[.pointer (some ⟨p, o, none⟩), .int .i64 (n : Int)] w (GrowC o cs0 T0 B p x n w) := by
 have HO := lh h;obtain ⟨c0, c1, f0, f1, hrow, hok, hne, hob⟩ := h;obtain ⟨m, hm⟩ : ∃ m, m = x.ws.length := ⟨_, rfl⟩;rw [<- hm] at c1 hrow;by_cases hle : n <= m
 ·have z : decide ((m : Int) < (n : Int)) = false := dqf (by omega);have zn : decide (m < n) = false := dqf (by omega);have HL := lh (show n - x.ws.length = 0 by omega);clear hrow hok hne hob hm hle hn hB;go_enter Tryz.func83, Tryz.ntmps83;go_wp2_with fail;go_end0
  refine ⟨rfl, x.A, x.c, ?_, Turned.refl _ _, fun k hk => .inl ?_⟩
  ·rw [HL.out, List.replicate_zero, List.append_nil];exact HO.out
  ·rw [HL.out, List.replicate_zero, List.append_nil] at hk;exact hk
 ·have z : decide ((m : Int) < (n : Int)) = true := dqt (by omega);have zn : decide (m < n) = true := dqt (by omega);obtain ⟨k, hk⟩ : ∃ k, k = n - m := ⟨_, rfl⟩;have hkI : IntKind.i64.wrap ((n : Int) - (m : Int)) = (k : Int) := (by rw [show (n : Int) - (m : Int) = (k : Int) by omega]; exact IntWalk.i64_in _ (by omega));have hrd : w.drew.ownsRow B 23 1 (.slice x.A m x.c) m (wsV x.ws) := hrow;obtain ⟨v', w', hap, hown', hgr, hkk⟩ := run_append_zeros hrd k (by omega) (by omega) hB;obtain ⟨A', c', ev, hcc, _, _⟩ := own_form hown';subst ev;have hpl : p < w.heap.size := World.block_lt_of_cell? w ⟨p, o, none⟩ c0;have hpn : some p ≠ (Value.slice x.A m x.c).ownBlock := fun e => hne p (by unfold Ix.sl; rw [<- hm]; exact e.symm) rfl;have d0 : w'.cell? ⟨p, o, none⟩ = some (.int .i64 (x.f : Int)) := (hgr.cell_far ⟨p, o, none⟩ hpl hpn).trans c0;have d1 : w'.cell? ⟨p, o + 1, none⟩ = some (.slice x.A m x.c) := (hgr.cell_far ⟨p, o + 1, none⟩ hpl hpn).trans c1;have g0 : w'.frozen? ⟨p, o, none⟩ = false := (hgr.frozen_far ⟨p, o, none⟩ hpl hpn).trans f0;have g1 : w'.frozen? ⟨p, o + 1, none⟩ = false := (hgr.frozen_far ⟨p, o + 1, none⟩ hpl hpn).trans f1;have HAP := lh hap;have HG := lh (aI hown' (aI hgr hkk));have HKM := lh (aI hk (aI hm (aI hpl hpn)));clear hrow hok hne hob hm hle hn hB hrd hap hown' hgr hkk hk hpl hpn;go_enter Tryz.func83, Tryz.ntmps83;go_wp2_with fail
  go_region_law (refine step_append_run HAP.out rfl (.tmp 15) (.tmp 22) rfl (by simp [Act.eval, Act.put]) (by simp [Act.eval, Act.put]) ?_)
  all_goals
   go_end0
   obtain ⟨a1, a2, h1, h2, h3⟩ := grow_post HO.out HKM.out.1 HKM.out.2.1 HKM.out.2.2.1 HKM.out.2.2.2 HG.out.1 HG.out.2.1 HG.out.2.2 d0 g0 d1 g1;exact ⟨rfl, a1, a2, h1, h2, h3⟩
end Go.Proofs.YtflkfleihlceeaaGreatDoor.J
namespace Go.Proofs.YtflkfleihlceeaaGreatDoor.J
open Go.RowKit Go.Deep Go.Sort Go.Proofs.YtflkfleihlceeaaGreatDoor
variable {o : Nat} {cs0 : Array Value} {T0 : TypeId}
theorem OwnI.row_cell {w : World} {B p : Nat} {x : Ix} (h : OwnI o cs0 T0 w B p x) {j m : Nat} (hj : x.ws[j]? = some m) : ∃ g, x.A = some ⟨g, 0, none⟩ /\ x.sl.ownBlock = some g /\ w.cell? ⟨g, j, none⟩ = some (.int .u64 (m : Int)) /\ w.frozen? ⟨g, j, none⟩ = false := by
 rcases h.row.2 with ⟨e, hn⟩ | ⟨g, cap, cur, e, hb, hg, hnc, hcm, hcs, htake⟩
 ·rw [List.getElem?_eq_none (by omega)] at hj;cases hj
 ·injection e with e1 e2 e3;have hc := World.ownsRow.cells h.row (g := g) (by rw [e1]; rfl) j _ (wsV_at hj);rw [Addr.add_mid, Nat.zero_add] at hc;refine ⟨g, e1, by unfold Ix.sl; rw [e1]; rfl, hc, ?_⟩;simp [World.frozen?, hg]
theorem OwnI.put {w : World} {B p : Nat} {x : Ix} (h : OwnI o cs0 T0 w B p x) {g : Nat} (hA : x.A = some ⟨g, 0, none⟩) (j m : Nat) (hm : m < 18446744073709551616) : OwnI o cs0 T0 (w.setCell ⟨g, j, none⟩ (.int .u64 (m : Int))) B p ⟨x.f, x.ws.set j m, x.A, x.c⟩ := by
 have hgp : g ≠ p := h.ne g (by unfold Ix.sl; rw [hA]; rfl);have ht := (Turned.refl (fun k => k = g) w).put' (k := g) rfl j (.int .u64 (m : Int));have hpl : p < w.heap.size := World.block_lt_of_cell? w ⟨p, o, none⟩ h.c0;have hlen : (x.ws.set j m).length = x.ws.length := List.length_set ..;refine ⟨ht.cell h.c0 (fun e => hgp e.symm), ?_, ?_, ?_, ?_, ?_, ?_, h.obj.far hgp _ _⟩
 ·rw [hlen]; exact ht.cell h.c1 (fun e => hgp e.symm)
 ·rw [World.frozen?_of_block (ht.block p hpl (fun e => hgp e.symm))]; exact h.f0
 ·rw [World.frozen?_of_block (ht.block p hpl (fun e => hgp e.symm))]; exact h.f1
 ·have hr := h.row;rw [hA] at hr;have h2 := (World.ownsRow.stored hr j (.int .u64 (m : Int))).1;show (w.setCell ⟨g, j, none⟩ (.int .u64 (m : Int))).ownsRow B 23 1 (.slice x.A (x.ws.set j m).length x.c) (x.ws.set j m).length (wsV (x.ws.set j m));rw [hlen, hA, show wsV (x.ws.set j m) = (wsV x.ws).set j (.int .u64 (m : Int)) by simp [wsV, List.map_set]];exact h2
 ·intro q hq;rcases List.mem_or_eq_of_mem_set hq with hq | hq
  ·exact h.ok q hq
  ·rw [hq]; exact hm
 ·intro q hq;unfold Ix.sl at hq;rw [hlen] at hq;exact h.ne q hq
def AddC (o : Nat) (cs0 : Array Value) (T0 : TypeId) (B p : Nat) (x : Ix) (P : Nat -> Bool) (n : Nat) (w : World) (e : Ending) (w' : World) : Prop := e = .returned (.tuple #[]) /\ ∃ ws' A' c', OwnI o cs0 T0 w' B p ⟨x.f, ws', A', c'⟩ /\ (∀ j, memN x.f ws' j = (memN x.f x.ws j || P j)) /\ ws'.length = max x.ws.length n /\ Turned (Tch p x) w w' ∧
 ∀ k, (Ix.sl ⟨x.f, ws', A', c'⟩).ownBlock = some k -> x.sl.ownBlock = some k \/ w.heap.size <= k
theorem OwnI.drew {w : World} {B p : Nat} {x : Ix} (h : OwnI o cs0 T0 w B p x) : OwnI o cs0 T0 w.drew B p x := ⟨h.c0, h.c1, h.f0, h.f1, h.row, h.ok, h.ne, h.obj⟩
theorem add_post {w w1 : World} {B p i t n1 r m m2 g : Nat} {x : Ix} {ws1 : List Nat} {A' : Option Addr} {c' : Nat} (_hx : OwnI o cs0 T0 w B p x) (hO : OwnI o cs0 T0 w1 B p ⟨x.f, ws1, A', c'⟩) (hT : Turned (Tch p x) w w1) (hk : ∀ k, (Ix.sl ⟨x.f, ws1, A', c'⟩).ownBlock = some k -> x.sl.ownBlock = some k \/ w.heap.size <= k)
  (hws : ws1 = x.ws ++ List.replicate (n1 - x.ws.length) 0) (htl : t < ws1.length) (hgd : ws1.getD t 0 = m) (hm2 : m2 = m ||| 2 ^ r) (hm264 : m2 < 18446744073709551616) (hA : A' = some ⟨g, 0, none⟩)
  (hI : ∀ ws : List Nat, t < ws.length -> ∀ j, memN x.f (ws.set t (ws.getD t 0 ||| 2 ^ (i % 64))) j = (memN x.f ws j || decide (j = i))) (hr : r = i % 64) (hn1 : n1 = t + 1) :
  ∃ ws' A2 c2, OwnI o cs0 T0 (w1.setCell ⟨g, t, none⟩ (.int .u64 (m2 : Int))).drew B p ⟨x.f, ws', A2, c2⟩ /\ (∀ j, memN x.f ws' j = (memN x.f x.ws j || decide (j = i))) /\ ws'.length = max x.ws.length (t + 1) /\ Turned (Tch p x) w (w1.setCell ⟨g, t, none⟩ (.int .u64 (m2 : Int))).drew ∧
   ∀ k, (Ix.sl ⟨x.f, ws', A2, c2⟩).ownBlock = some k -> x.sl.ownBlock = some k \/ w.heap.size <= k := by
 have hlen : (ws1.set t m2).length = ws1.length := List.length_set ..;have hgb : (Ix.sl ⟨x.f, ws1, A', c'⟩).ownBlock = some g := (by rw [hA]; rfl);refine ⟨ws1.set t m2, A', c', (hO.put (x := ⟨x.f, ws1, A', c'⟩) hA t m2 hm264).drew, fun j => ?_, ?_, ?_, fun k hk2 => ?_⟩
 ·have h := hI ws1 htl j;rw [hgd, <- hr, <- hm2] at h;rw [h, hws, mem_zeros]
 ·rw [hlen, hws];simp;omega
 ·refine Turned.drew' (Turned.trans (T := fun k => k = g) hT ((Turned.refl (fun k => k = g) w1).put' rfl t _) fun k hkl hkg => ?_);subst hkg;rcases hk k hgb with h | h
  ·exact .inr h
  ·exact absurd hkl (Nat.not_lt.2 h)
 ·refine hk k ?_;have : (Ix.sl ⟨x.f, ws1.set t m2, A', c'⟩) = Ix.sl ⟨x.f, ws1, A', c'⟩ := (by unfold Ix.sl; simp only [hlen]);rw [<- this];exact hk2
set_option maxRecDepth 100000 in
set_option maxHeartbeats 1000000 in
theorem add_is {w : World} {B p : Nat} {x : Ix} (h : OwnI o cs0 T0 w B p x) (hB : B <= w.heap.size) (i : Nat) (hf : x.f <= i / 64) (hi : i < 1099511627776) : Calls Tryz.prog 53 #[.pointer (some ⟨p, o, none⟩), .int .i64 (i : Int)] w (AddC o cs0 T0 B p x (fun j => decide (j = i)) (i / 64 - x.f + 1) w) := by
 obtain ⟨hq, hqw, hr, hrw, hr64, hq40⟩ := div_facts i hi;obtain ⟨t, ht⟩ : ∃ t, t = i / 64 - x.f := ⟨_, rfl⟩;have hsub : wrap64 (((i / 64 : Nat) : Int) - (x.f : Int)) = (t : Int) := (by rw [IntWalk.wrap64_in _ (by omega)]; omega);have HG := lh (grow_is h hB (t + 1) (by omega));have hs1 : wrap64 ((t : Int) + 1) = ((t + 1 : Nat) : Int) := IntWalk.wrap64_in _ (by omega);obtain ⟨n1, hn1⟩ : ∃ n, n = t + 1 := ⟨_, rfl⟩;rw [<- hn1] at HG hs1;have c0 := h.c0;have HT := lh (aI ht (aI hf hn1));have HX := lh h;have HI := lh fun ws => mem_add (f := x.f) (i := i) (ws := ws) hf;obtain ⟨q, eq⟩ : ∃ q, q = i / 64 := ⟨_, rfl⟩;obtain ⟨r, er⟩ : ∃ r, r = i % 64 := ⟨_, rfl⟩;rw [<- eq] at hq hqw hsub;rw [<- er] at hr hrw hr64;rw [<- ht] at HI;have HR := lh (aI er hr64);have hrI : (0 : Int) <= (r : Int) := Int.natCast_nonneg _;have hr64I : (r : Int) < 64 := Int.ofNat_lt.2 hr64;have hmin : min r 64 = r := Nat.min_eq_left (Nat.le_of_lt hr64);rw [<- ht];unfold AddC;clear h hB hf hi hq40 ht eq er hn1;go_enter Tryz.func53, Tryz.ntmps53;go_wp2_with fail;go_at_call 83;refine HG.out.mono ?_;rintro e w1 ⟨rfl, A', c', hO, hT, hk⟩;obtain ⟨ws1, hws1⟩ : ∃ ws, ws = x.ws ++ List.replicate (n1 - x.ws.length) 0 := ⟨_, rfl⟩;rw [<- hws1] at hO hk;have htl : t < ws1.length := (by rw [hws1]; have := HT.out.2.2; simp; omega);obtain ⟨m, hm⟩ : ∃ m, ws1[t]? = some m := ⟨ws1[t]'htl, List.getElem?_eq_getElem _⟩;obtain ⟨g, hA, hbk, hc, hfz⟩ := hO.row_cell hm;have hm64 : m < 18446744073709551616 := hO.ok m (List.mem_of_getElem? hm);have hgd : ws1.getD t 0 = m := (by rw [List.getD_eq_getElem?_getD, hm]; rfl);obtain ⟨m2, hm2⟩ : ∃ m2, m2 = m ||| 2 ^ r := ⟨_, rfl⟩;have hm264 : m2 < 18446744073709551616 := (by rw [hm2]; exact or_lt hm64 hr64);have d1 := hO.c1;simp only at d1 hA hc hfz;rw [hA] at d1;obtain ⟨L, hL⟩ : ∃ L, L = ws1.length := ⟨_, rfl⟩;rw [<- hL] at d1;have htI : (t : Int) < (L : Int) := (by omega);have ht0 : (0 : Int) <= (t : Int) := Int.natCast_nonneg _;have HO := lh (aI hO (aI hT hk));have HM := lh (aI hws1 (aI htl (aI hgd (aI hm2 (aI hm264 hA)))));clear hO hT hk hws1 htl hm hbk hm264 hgd hL c0;go_wp2_with fail;obtain ⟨b, hb⟩ : ∃ b : Nat, b = 2 ^ r := ⟨_, rfl⟩;have hb64 : b < 18446744073709551616 := (by rw [hb]; exact Nat.pow_lt_pow_right (by decide) hr64);have hpw : ((2 : Int) ^ r) = (b : Int) := (by rw [hb]; simp)
 have hbw : IntKind.u64.wrap (b : Int) = (b : Int) := by
  show (b : Int) % 18446744073709551616 = (b : Int);omega
 have hor : bits .or .u64 (m : Int) (b : Int) = (m2 : Int) := (by rw [bits_or_u64_nat m b hm64 hb64, HM.out.2.2.2.1, hb]);clear hb hb64 hm64 hm2
 go_region
 all_goals
  go_end0
  exact ⟨rfl, add_post HX.out HO.out.1 HO.out.2.1 HO.out.2.2 HM.out.1 HM.out.2.1 HM.out.2.2.1 HM.out.2.2.2.1 HM.out.2.2.2.2.1 HM.out.2.2.2.2.2 HI.out HR.out.1 HT.out.2.2⟩
end Go.Proofs.YtflkfleihlceeaaGreatDoor.J
namespace Go.Proofs.YtflkfleihlceeaaGreatDoor.J
open Go.RowKit Go.Deep Go.Sort Go.Proofs.YtflkfleihlceeaaGreatDoor
variable {o : Nat} {cs0 : Array Value} {T0 : TypeId}
theorem OwnI.ix {w : World} {B p N : Nat} {x : Ix} (h : OwnI o cs0 T0 w B p x) (hf : x.f + x.ws.length <= N / 64 + 1) : IxAt (fun k => k < B) N w x := by
 refine ⟨?_, ?_, h.ok, hf⟩
 ·rcases h.row.2 with ⟨e, hn⟩ | ⟨g, cap, cur, e, hb, hg, hnc, hcm, hcs, htake⟩
  ·exact .inl (by rw [List.eq_nil_of_length_eq_zero hn]; rfl)
  ·injection e with e1 e2 e3;refine .inr ⟨g, 0, e1, Nat.not_lt.2 hb, fun j v hv => ?_⟩;have := World.ownsRow.cells h.row (g := g) (by rw [e1]; rfl) j v hv;rw [Addr.add_mid, Nat.zero_add] at this;rw [Nat.zero_add];exact this
 ·rcases h.row.2 with ⟨e, hn⟩ | ⟨g, cap, cur, e, hb, hg, hnc, hcm, hcs, htake⟩
  ·rw [hn]; exact Nat.zero_le _
  ·injection e with e1 e2 e3;rw [e3];exact hnc
theorem OwnI.stays {w w' : World} {B p : Nat} {x : Ix} (h : OwnI o cs0 T0 w B p x) {S : Nat -> Prop} (ht : Turned S w w') (hS : ∀ k, Tch p x k -> ¬ S k) : OwnI o cs0 T0 w' B p x := by
 have hpl : p < w.heap.size := World.block_lt_of_cell? w ⟨p, o, none⟩ h.c0;have hp := hS p (.inl rfl);exact ⟨ht.cell h.c0 hp, ht.cell h.c1 hp, by rw [World.frozen?_of_block (ht.block p hpl hp)]; exact h.f0, by rw [World.frozen?_of_block (ht.block p hpl hp)]; exact h.f1, ownsRow_turned h.row ht fun k hk => hS k (.inr hk), h.ok, h.ne, h.obj.same (ht.block p hpl hp)⟩
end Go.Proofs.YtflkfleihlceeaaGreatDoor.J
namespace Go.Proofs.YtflkfleihlceeaaGreatDoor.J
open Go.RowKit Go.Deep Go.Sort Go.Proofs.YtflkfleihlceeaaGreatDoor
variable {o : Nat} {cs0 : Array Value} {T0 : TypeId}
structure AllAt (o : Nat) (cs0 : Array Value) (T0 : TypeId) (B p : Nat) (x y : Ix) (ws1 : List Nat) (A : Option Addr) (c : Nat) (w1 : World) (k : Nat) (wr : World) (ws : List Nat) : Prop where
 own : OwnI o cs0 T0 wr B p ⟨x.f, ws, A, c⟩
 len : ws.length = ws1.length
 mem : ∀ j, memN x.f ws j = (memN x.f ws1 j || memTo y k j)
 tur : Turned (Tch p ⟨x.f, ws1, A, c⟩) w1 wr
theorem AllAt.go {B p : Nat} {x y : Ix} {ws1 ws : List Nat} {A : Option Addr} {c k t m a g : Nat} {w1 wr : World} (h : AllAt o cs0 T0 B p x y ws1 A c w1 k wr ws) (hf : x.f <= y.f) (ht : t = y.f - x.f) (hk : t + k < ws1.length) (hm : y.ws[k]? = some m) (ha : ws.getD (t + k) 0 = a) (hA : A = some ⟨g, 0, none⟩) (h64 : a ||| m < 18446744073709551616) :
  AllAt o cs0 T0 B p x y ws1 A c w1 (k + 1) (wr.setCell ⟨g, t + k, none⟩ (.int .u64 ((a ||| m : Nat) : Int))) (ws.set (t + k) (a ||| m)) := by
 have hlen : (ws.set (t + k) (a ||| m)).length = ws.length := List.length_set ..;refine ⟨h.own.put (x := ⟨x.f, ws, A, c⟩) hA (t + k) _ h64, hlen.trans h.len, fun j => ?_, ?_⟩
 ·subst ha;rw [mem_or hf ht (by rw [h.len]; exact hk) hm j, h.mem j, memTo_succ, Bool.or_assoc]
 ·exact Turned.trans (T := fun q => q = g) h.tur ((Turned.refl (fun q => q = g) wr).put' rfl _ _) fun q _ hq => .inr (by unfold Ix.sl; rw [hA, hq]; rfl)
structure AllH (o : Nat) (cs0 : Array Value) (T0 : TypeId) (w : World) (B p N : Nat) (x y : Ix) : Prop where
 own : OwnI o cs0 T0 w B p x
 base : B <= w.heap.size
 oth : IxAt (Tch p x) N w y
 small : N < 1000000000000
 le : y.ws ≠ [] -> x.f <= y.f
theorem all_post {w W1 wc w1 wr : World} {B p N n t r : Nat} {x y : Ix} {ws1 ws : List Nat} {A : Option Addr} {c : Nat} (hn : n = y.ws.length) (_hr : r = t + n) (_hH : AllH o cs0 T0 w B p N x y) (hbc : Below W1.heap.size W1 wc) (hb0 : Below w.heap.size w W1) (hT : Turned (Tch p x) wc w1)
  (hk : ∀ k, (Ix.sl ⟨x.f, ws1, A, c⟩).ownBlock = some k -> x.sl.ownBlock = some k \/ wc.heap.size <= k) (hws : ws1 = x.ws ++ List.replicate (r - x.ws.length) 0) (h : AllAt o cs0 T0 B p x y ws1 A c w1 n wr ws) :
  ∃ ws' A' c', OwnI o cs0 T0 wr B p ⟨x.f, ws', A', c'⟩ /\ (∀ j, memN x.f ws' j = (memN x.f x.ws j || y.mem j)) /\ ws'.length = max x.ws.length r /\ Turned (Tch p x) w wr /\ ∀ k, (Ix.sl ⟨x.f, ws', A', c'⟩).ownBlock = some k -> x.sl.ownBlock = some k \/ w.heap.size <= k := by
 have hbw : Below w.heap.size w wc := hb0.trans (hbc.mono hb0.size);have hsz := hbw.size;have hsl : Ix.sl ⟨x.f, ws, A, c⟩ = Ix.sl ⟨x.f, ws1, A, c⟩ := (by unfold Ix.sl; simp only [h.len]);refine ⟨ws, A, c, h.own, fun j => ?_, ?_, ?_, fun k hk2 => ?_⟩
 ·rw [h.mem j, hn, memTo_all, hws, mem_zeros]
 ·rw [h.len, hws]; simp; omega
 ·refine Turned.trans (T := fun k => Tch p x k \/ w.heap.size <= k) (Turned.of_below hbw) (Turned.trans (T := Tch p ⟨x.f, ws1, A, c⟩) ⟨hT.os, hT.tape, hT.output, hT.size, fun j hj hn => hT.block j hj fun h => hn (.inl h)⟩ h.tur fun k _ hk2 => ?_) fun k hkl hk2 => ?_
  ·rcases hk2 with h | h
   ·exact .inl (.inl h)
   ·rcases hk k h with h | h
    ·exact .inl (.inr h)
    ·exact .inr (Nat.le_trans hsz h)
  ·rcases hk2 with h | h
   ·exact h
   ·exact absurd hkl (Nat.not_lt.2 h)
 ·rw [hsl] at hk2;rcases hk k hk2 with h | h
  ·exact .inl h
  ·exact .inr (Nat.le_trans hsz h)
set_option maxRecDepth 100000 in
set_option maxHeartbeats 2000000 in
theorem all_is {w : World} {B p N : Nat} {x y : Ix} (h : AllH o cs0 T0 w B p N x y) : Calls Tryz.prog 79 #[.pointer (some ⟨p, o, none⟩), y.v] w (AddC o cs0 T0 B p x y.mem (if y.ws = [] then 0 else y.f - x.f + y.ws.length) w) := by
 have HH := lh h;obtain ⟨n, hn⟩ : ∃ n, n = y.ws.length := ⟨_, rfl⟩;unfold Ix.v;rw [<- hn];by_cases h0 : n = 0
 ·have hy : y.ws = [] := List.eq_nil_of_length_eq_zero (hn.symm.trans h0)
  have HP := lh (show AddC o cs0 T0 B p x y.mem 0 w (.returned (.tuple #[])) (w.alloc (.cells #[.int .i64 (y.f : Int), .slice y.A n y.c] 68)) from by
   have ht : Turned (fun _ => False) w (w.alloc (.cells #[.int .i64 (y.f : Int), .slice y.A n y.c] 68)) := Turned.of_below (bW w _);refine ⟨rfl, x.ws, x.A, x.c, h.own.stays ht (fun _ _ h => h), fun j => ?_, by simp, Turned.of_below (bW w _), fun k hk => .inl hk⟩
   have : y.mem j = false := by
    unfold Ix.mem memN wordN;rw [hy];split
    ·exact Nat.zero_testBit _
    ·exact Nat.zero_testBit _
   rw [this, Bool.or_false])
  have z : ((n : Int) == 0) = true := (by rw [h0]; rfl);rw [if_pos hy];clear h hn h0 hy;go_enter Tryz.func79, Tryz.ntmps79;go_wp2_with fail;go_end0
  exact HP.out
 ·have hy : y.ws ≠ [] := fun e => h0 (by rw [hn, e]; rfl);have hle := h.le hy;have hfit := h.oth.fits;have hsm := h.small;obtain ⟨hw1, hw2⟩ := all_nums (a := x.f) (b := y.f) (n := n) hle (by omega) (by omega);obtain ⟨t, ht⟩ : ∃ t, t = y.f - x.f := ⟨_, rfl⟩;rw [<- ht] at hw1 hw2;rw [if_neg hy, <- ht];obtain ⟨r, hr⟩ : ∃ r, r = t + n := ⟨_, rfl⟩;rw [<- hr] at hw2 ⊢;have z : ((n : Int) == 0) = false := (by rw [beq_eq_false_iff_ne]; omega);have hpl : p < w.heap.size := World.block_lt_of_cell? w ⟨p, o, none⟩ h.own.c0;have hb0 := bW w (.cells #[.int .i64 (y.f : Int), .slice y.A n y.c] 68);obtain ⟨W1, hW1⟩ : ∃ W1, W1 = w.alloc (.cells #[.int .i64 (y.f : Int), .slice y.A n y.c] 68) := ⟨_, rfl⟩;rw [<- hW1] at hb0;have hown1 : OwnI o cs0 T0 W1 B p x := h.own.stays (S := fun _ => False) (Turned.of_below hb0) fun _ _ h => h;have hy1 : IxAt (Tch p x) N W1 y := h.oth.stays hb0;have hob : W1.heap[w.heap.size]? = some (.cells #[.int .i64 (y.f : Int), .slice y.A n y.c] 68) := (by rw [hW1]; exact heap_alloc_new w _);have c0 := hown1.c0;have k0 := obc hob 0;have k1 := obc hob 1;simp at k0 k1;have HN := lh (aI hn (aI ht (aI hle (aI hr (aI (show r < 100000000000 by omega) hpl)))));have HW := lh (aI hown1 (aI hy1 (aI hob hb0)));have hlw : w.heap.size < W1.heap.size := lts hob;have HW12 := lh (aI hw1 hw2);have HGR := lh fun (W : World) (hO : OwnI o cs0 T0 W B p x) (hB : B <= W.heap.size) => grow_is hO hB r (by omega);clear h hn hy hle hfit hsm ht hr hpl hown1 hy1 hob hb0 h0 hw1 hw2;go_enter Tryz.func79, Tryz.ntmps79;go_upto_region 2 with fail;rw [<- hW1];clear hW1;go_cut [4] from 11 to 17 (fun v wx => v = .int .i64 (t : Int) /\ Below W1.heap.size W1 wx)
  case first =>
   have j0 := cell_regrown k0;have j1 := cell_regrown c0;have hw1 := HW12.out.1;refine wp_region_quiet_below (by kernel_rfl) (by kernel_rfl) ?_
   repeat (go_big_quiet_step (fail))
   refine wpQuiet_nil ?_;rintro w5 ⟨⟨dq, osq⟩, rfl⟩;have hb5 := below_regrown W1 dq osq;generalize grow (redrawn W1 dq) osq = w5 at hb5 ⊢;clear j0 j1 hw1;go_wp2_with fail;go_meet
   case rel => exact ⟨rfl, hb5⟩
  obtain ⟨rfl, hbc⟩ := hcut;have hown2 : OwnI o cs0 T0 wc B p x := HW.out.1.stays (S := fun _ => False) (Turned.of_below hbc) fun _ _ h => h;have hy2 : IxAt (Tch p x) N wc y := HW.out.2.1.stays hbc;have hob2 := Below.obj hbc HW.out.2.2.1 hlw;have k1' := obc hob2 1;simp at k1';have HG := lh (HGR.out wc hown2 (by have := HH.out.base; have := HW.out.2.2.2.size; have := hbc.size; omega));have HW2 := lh (aI hy2 (aI hob2 (aI hbc (show p < wc.heap.size /\ w.heap.size < wc.heap.size by have := HN.out.2.2.2.2.2; have := HW.out.2.2.2.size; have := hbc.size; omega))));clear hown2 hy2 hob2 hbc k0 k1 c0;have hw2 := HW12.out.2;go_wp2_with fail;go_at_call 83;clear hw2;refine HG.out.mono ?_;rintro e w1 ⟨rfl, A, c, hO, hT, hk⟩;obtain ⟨ws1, hws1⟩ : ∃ ws, ws = x.ws ++ List.replicate (r - x.ws.length) 0 := ⟨_, rfl⟩;rw [<- hws1] at hO hk;have hop : w.heap.size ≠ p := (by have := HN.out.2.2.2.2.2; omega)
  have hnt : ¬ Tch p x w.heap.size := fun h => by
   rcases h with h | h
   ·exact hop h
   ·have := (World.ownsRow.lt HH.out.own.row _ h).2;omega
  have hob3 := hT.obj HW2.out.2.1 hnt;have l1 := obc hob3 1;simp at l1;have hyT := HW2.out.1.turned hT
  have hy3 : IxAt (Tch p ⟨x.f, ws1, A, c⟩) N w1 y := by
   have hf := HW2.out.1.fresh (T := fun k => Tch p x k \/ wc.heap.size <= k) fun k hk => hk;refine (⟨hf.off.turned ?_, hf.cap, hf.ok, hf.fits⟩ : IxAt (fun k => Tch p x k \/ wc.heap.size <= k) N w1 y).weaken fun k hk2 => ?_
   ·exact ⟨hT.os, hT.tape, hT.output, hT.size, fun j hj hn => hT.block j hj fun h => hn (.inl h)⟩
   ·rcases hk2 with h | h
    ·exact .inl (.inl h)
    ·exact (hk k h).elim (fun h => .inl (.inr h)) .inr
  have hno3 : ¬ Tch p ⟨x.f, ws1, A, c⟩ w.heap.size := fun h => by
   rcases h with h | h
   ·exact hop h
   ·rcases hk _ h with h | h
    ·exact hnt (.inr h)
    ·have := HW2.out.2.2.2.2; omega
  have HL := lh (aI hO (aI hT (aI hk (aI hws1 (aI hob3 (aI hy3 hno3))))));clear hO hT hk hws1 hop hnt hob3 hyT hy3 hno3 k1';go_wp2_with fail;go_loopw [5, 6, 28] (fun _ _ kv wr => ∃ (k : Nat) (ws : List Nat), kv = .int .i64 (k : Int) /\ k <= n /\ Hid (AllAt o cs0 T0 B p x y ws1 A c w1 k wr ws)) (fun _ _ kv _ => n - (intOf kv).toNat)
  case atStart => exact ⟨0, ws1, rfl, Nat.zero_le _, lh ⟨HL.out.1, rfl, fun j => by rw [memTo_zero, Bool.or_false], Turned.refl _ _⟩⟩
  case round =>
   obtain ⟨k, ws, rfl, hkn, HA⟩ := hrel;by_cases hlt : k < n
   ·obtain ⟨m, hm⟩ : ∃ m, y.ws[k]? = some m := ⟨y.ws[k]'(by have := HN.out.1; omega), List.getElem?_eq_getElem _⟩;obtain ⟨gy, oy, eA, hgl, hcy⟩ := (HL.out.2.2.2.2.2.1.turned HA.out.tur).off.cell (wsV_at hm);have hob4 := HA.out.tur.obj HL.out.2.2.2.2.1 HL.out.2.2.2.2.2.2;have htk : t + k < ws1.length := (by rw [HL.out.2.2.2.1]; have := HN.out.2.2.2.1; simp; omega);have htk2 : t + k < ws.length := (by rw [HA.out.len]; exact htk);obtain ⟨a, ha⟩ : ∃ a, ws[t + k]? = some a := ⟨ws[t + k]'htk2, List.getElem?_eq_getElem _⟩;obtain ⟨g, hA, hbk, hc, hfz⟩ := HA.out.own.row_cell ha;have hm64 := HL.out.2.2.2.2.2.1.ok m (List.mem_of_getElem? hm);have ha64 := HA.out.own.ok a (List.mem_of_getElem? ha);have hor : bits .or .u64 (a : Int) (m : Int) = ((a ||| m : Nat) : Int) := bits_or_u64_nat a m ha64 hm64;have ham : a ||| m < 18446744073709551616 := Nat.or_lt_two_pow (n := 64) ha64 hm64;have hgd : ws.getD (t + k) 0 = a := (by rw [List.getD_eq_getElem?_getD, ha]; rfl);have HGO := lh (HA.out.go HN.out.2.2.1 HN.out.2.1 htk hm hgd hA ham);have d1 := HA.out.own.c1;simp only at d1 hc hfz hA;rw [hA] at d1;have m1 := obc hob4 1;simp at m1;rw [eA] at m1;obtain ⟨am, ham2⟩ : ∃ am, am = a ||| m := ⟨_, rfl⟩;rw [<- ham2] at hor HGO;obtain ⟨tk, htk3⟩ : ∃ q, q = t + k := ⟨_, rfl⟩;rw [<- htk3] at HGO hc hfz;obtain ⟨L, hL⟩ : ∃ L, L = ws.length := ⟨_, rfl⟩;rw [<- hL] at d1;have htI : (tk : Int) < (L : Int) := (by omega);have ht0 : (0 : Int) <= (tk : Int) := Int.natCast_nonneg _;have hkI : (k : Int) < (n : Int) := (by omega);have hr11 : t + n < 100000000000 := (by have h1 := HN.out.2.2.2.1; have h2 := HN.out.2.2.2.2.1; omega);have hkb : k < 100000000000 := (by omega);have htb : t < 100000000000 := (by omega);have htkb : tk < 100000000000 := (by omega);have HRD := lh (all_round htb hkb);have hw3 : wrap64 ((t : Int) + (k : Int)) = (tk : Int) := HRD.out.1.trans (by rw [htk3]);have hw4 := HRD.out.2;clear hr11 htb;have hk0 : (0 : Int) <= (k : Int) := Int.natCast_nonneg _;clear hm hgl hob4 htk htk2 ha hbk hm64 ha64 ham hgd hA ham2 htk3 hL hkn;go_wp2_with fail;go_roundw
    case rel => exact ⟨k + 1, _, by go_num, hlt, HGO⟩
    case measure => simp only [intOf]; exact all_meas hlt
   ·have he : k = n := (by omega);subst he;have hkI : ¬ (k : Int) < (k : Int) := Int.lt_irrefl _;clear hlt hkn;go_wp2_with fail;go_end0
    exact ⟨rfl, all_post HN.out.1 HN.out.2.2.2.1 HH.out HW2.out.2.2.1 HW.out.2.2.2 HL.out.2.1 HL.out.2.2.1 HL.out.2.2.2.1 HA.out⟩
end Go.Proofs.YtflkfleihlceeaaGreatDoor.J
namespace Go.Proofs.YtflkfleihlceeaaGreatDoor.J
open Go.RowKit Go.Deep Go.Sort Go.Proofs.YtflkfleihlceeaaGreatDoor
variable {o : Nat} {cs0 : Array Value} {T0 : TypeId}
structure Stp (o : Nat) (cs0 : Array Value) (T0 : TypeId) (S : Nat -> Prop) (fb : Nat) (F : FN) (L : Nat) (w : World) (B p : Nat) (x : Ix) : Prop where
 fin : FindAt (fun k => S k \/ Tch p x k) w fb F L
 own : OwnI o cs0 T0 w B p x
 hB : B <= w.heap.size
 hp : B <= p
 hS : ∀ k, S k -> k < B
 sm : S F.mb
 sf : S fb
 fits : x.f + x.ws.length <= F.N / 64 + 1
theorem Stp.tch {S : Nat -> Prop} {fb L B p : Nat} {F : FN} {w : World} {x : Ix} (h : Stp o cs0 T0 S fb F L w B p x) {k : Nat} (hk : Tch p x k) : B <= k := by
 rcases hk with hk | hk
 ·rw [hk]; exact h.hp
 ·exact (World.ownsRow.lt h.own.row k hk).1
theorem Stp.mb {S : Nat -> Prop} {fb L B p : Nat} {F : FN} {w : World} {x : Ix} (h : Stp o cs0 T0 S fb F L w B p x) {k : Nat} (hk : Tch p x k) : k ≠ F.mb /\ k ≠ fb := by
 have h1 := h.tch hk;have h2 := h.hS _ h.sm;have h3 := h.hS _ h.sf;omega
structure Stepped (o : Nat) (cs0 : Array Value) (T0 : TypeId) (S : Nat -> Prop) (fb : Nat) (F : FN) (L B p : Nat) (x : Ix) (i : Nat) (r : Rel) (w w' : World) (x' : Ix) (E : Nat -> Bool) : Prop where
 fs : x'.f = x.f
 stp : Stp o cs0 T0 S fb F L w' B p x'
 ends : EndsR L r (onlyB i) E
 mem : ∀ j, x'.mem j = (x.mem j || E j)
 tur : Turned (fun k => k = F.mb \/ Tch p x k) w w'
 new : ∀ k, Tch p x' k -> Tch p x k \/ w.heap.size <= k
def SteppedE (o : Nat) (cs0 : Array Value) (T0 : TypeId) (S : Nat -> Prop) (fb : Nat) (F : FN) (L B p : Nat) (x : Ix) (i : Nat) (r : Rel) (w : World) (e : Ending) (w' : World) : Prop := e = .returned (.tuple #[]) /\ ∃ x' E, Stepped o cs0 T0 S fb F L B p x i r w w' x' E
theorem Stp.add {S : Nat -> Prop} {fb L B p n : Nat} {F : FN} {w w' : World} {x : Ix} {ws' : List Nat} {A' : Option Addr} {c' : Nat} (h : Stp o cs0 T0 S fb F L w B p x) (hO : OwnI o cs0 T0 w' B p ⟨x.f, ws', A', c'⟩) (hT : Turned (Tch p x) w w') (hk : ∀ k, (Ix.sl ⟨x.f, ws', A', c'⟩).ownBlock = some k -> x.sl.ownBlock = some k \/ w.heap.size <= k)
  (hl : ws'.length = max x.ws.length n) (hn : x.f + n <= F.N / 64 + 1) : Stp o cs0 T0 S fb F L w' B p ⟨x.f, ws', A', c'⟩ /\ ∀ k, Tch p ⟨x.f, ws', A', c'⟩ k -> Tch p x k \/ w.heap.size <= k := by
 have hnew : ∀ k, Tch p ⟨x.f, ws', A', c'⟩ k -> Tch p x k \/ w.heap.size <= k := fun k hk' => by
  rcases hk' with hk' | hk'
  ·exact .inl (.inl hk')
  ·exact (hk k hk').imp_left .inr
 refine ⟨⟨?_, hO, Nat.le_trans h.hB hT.size, h.hp, h.hS, h.sm, h.sf, ?_⟩, hnew⟩
 ·refine h.fin.go hT (fun k hk1 _ => ⟨.inr hk1, h.mb hk1⟩) (.inl h.sm) (.inl h.sf) (fun k hk1 => ?_) fun k hk1 => ?_
  ·rcases hk1 with hk1 | hk1
   ·exact .inl (.inl hk1)
   ·exact (hnew k hk1).imp_left .inr
  ·rcases hk1 with hk1 | hk1
   ·have := h.hS k hk1; have := h.hB; have := hT.size; omega
   ·rcases hk1 with hk1 | hk1
    ·rw [hk1]; exact World.block_lt_of_cell? w' _ hO.c0
    ·exact (World.ownsRow.lt hO.row k hk1).2
 ·show x.f + ws'.length <= _;have := h.fits;omega
theorem Stp.turned {S : Nat -> Prop} {fb L B p : Nat} {F : FN} {w w' : World} {x : Ix} (h : Stp o cs0 T0 S fb F L w B p x) (hf : FindAt (fun k => S k \/ Tch p x k) w' fb F L) (ht : Turned (· = F.mb) w w') : Stp o cs0 T0 S fb F L w' B p x :=
 ⟨hf, h.own.stays ht fun _k hk he => (h.mb hk).1 he, Nat.le_trans h.hB ht.size, h.hp, h.hS, h.sm, h.sf, h.fits⟩
set_option maxRecDepth 100000 in
set_option maxHeartbeats 1000000 in
theorem step_oth {S : Nat -> Prop} {w : World} {fb L B p q : Nat} {F : FN} {x : Ix} (h : Stp o cs0 T0 S fb F L w B p x) {b1 b2 i : Nat} {d : ND} (hb1 : BoxO (fun k => S k \/ Tch p x k) w b1 #[ptrV fb] 62) (hb2 : BoxO (fun k => S k \/ Tch p x k) w b2 #[.int .i64 (q : Int)] 3) (hd : F.nds[q]? = some d) (hi : i <= F.N) (hf : x.f <= i / 64) (hFR : FromC fb F q) :
  Calls Tryz.prog 118 #[.int .i64 (i : Int), .pointer (some ⟨p, o, none⟩), ptrV b1, ptrV b2] w (SteppedE o cs0 T0 S fb F L B p x i (F.rel d.t) w) := by
 have c1 : w.cell? ⟨b1, 0, none⟩ = some (ptrV fb) := (by rw [obc hb1.1]; rfl);have c2 : w.cell? ⟨b2, 0, none⟩ = some (.int .i64 (q : Int)) := (by rw [obc hb2.1]; rfl);have HF := lh (hFR (fun k => S k \/ Tch p x k) w L i d h.fin hd hi);have HH := lh h;have HX := lh (aI hi hf);clear hb1 hb2 hd hFR h hi hf;go_enter Tryz.func118, Tryz.ntmps118;go_wp2_with fail;go_at_call 81;refine HF.out.mono ?_;rintro e w1 ⟨y, he, hg⟩;obtain ⟨n, hn⟩ : ∃ n, n = y.ws.length := ⟨_, rfl⟩;have hv : y.v = .agg #[.int .i64 (y.f : Int), .slice y.A n y.c] := (by unfold Ix.v; rw [hn]);rw [hv] at he;subst he;have hst := HH.out.turned hg.fin hg.tur;have HA := lh (all_is (w := w1) (B := B) (p := p) (N := F.N) (x := x) (y := y) ⟨hst.own, hst.hB, hg.at'.weaken fun k hk => .inr hk, by have := hg.fin.small; omega, fun hne => Nat.le_trans HX.out.2 (hg.low.resolve_left hne)⟩);rw [hv] at HA;have HG := lh (aI hg hst);clear hg hst hn hv c1 c2;go_wp2_with fail;go_at_call 79;refine HA.out.mono ?_;rintro e w2 ⟨rfl, ws', A', c', hO, hm, hl, hT, hk⟩;have hfy := HG.out.1.at'.fits;have hfx := HG.out.2.fits
 obtain ⟨hs2, hnew⟩ := HG.out.2.add hO hT hk hl (by
  split
  ·omega
  ·rename_i hne;have h1 := Nat.le_trans HX.out.2 (HG.out.1.low.resolve_left hne)
   omega)
 have HP := lh (show SteppedE o cs0 T0 S fb F L B p x i (F.rel d.t) w (.returned (.tuple #[])) w2 from ⟨rfl, ⟨x.f, ws', A', c'⟩, y.mem, rfl, hs2, HG.out.1.is, hm,
  (turned_mono HG.out.1.tur fun k hk => .inl hk).trans (T := Tch p x) hT fun k _ hk => .inr hk, fun k hk => (hnew k hk).imp_right fun h => Nat.le_trans HG.out.1.tur.size h⟩)
 clear hO hm hl hT hk hfy hfx hs2 hnew;go_wp2_with fail;go_end0
 exact HP.out
end Go.Proofs.YtflkfleihlceeaaGreatDoor.J
namespace Go.Proofs.YtflkfleihlceeaaGreatDoor.J
open Go.RowKit Go.Deep Go.Sort Go.Proofs.YtflkfleihlceeaaGreatDoor
variable {o : Nat} {cs0 : Array Value} {T0 : TypeId}
set_option maxRecDepth 100000 in
set_option maxHeartbeats 2000000 in
theorem step_one {S : Nat -> Prop} {w : World} {fb L B p : Nat} {F : FN} {x : Ix} (h : Stp o cs0 T0 S fb F L w B p x) {b1 b2 i : Nat} {T : Nat -> Nat} (hb1 : BoxO (fun k => S k \/ Tch p x k) w b1 #[ptrV fb] 62) (hb2 : BoxO (fun k => S k \/ Tch p x k) w b2 (setA T) 25) (hi : i <= F.N) (hf : x.f <= i / 64) :
  Calls Tryz.prog 92 #[.int .i64 (i : Int), .pointer (some ⟨p, o, none⟩), ptrV b1, ptrV b2] w (SteppedE o cs0 T0 S fb F L B p x i (oneB F.T T) w) := by
 have c1 : w.cell? ⟨b1, 0, none⟩ = some (ptrV fb) := (by rw [obc hb1.1]; rfl);have f2 := h.fin.f2;have f0 := h.fin.f0;have hlim := h.fin.lim;have hsm := h.fin.small;have HH := lh h;have HX := lh (aI hi hf);by_cases hL : i < L
 ·have hiN : i < F.s.size := Nat.lt_of_lt_of_le hL hlim;have z : decide ((i : Int) < (L : Int)) = true := dqt (by omega);have zn : decide (i < L) = true := dqt hL;obtain ⟨c, hc⟩ : ∃ c, c = F.s.data.toList[i]'hiN := ⟨_, rfl⟩;have hTc : F.T[i]? = some c := (by rw [hc]; exact List.getElem?_eq_getElem _);have hidx := fun (W : World) => str_byte hiN W;rw [<- hc] at hidx;have s0 : w.cell? ⟨b2, 0, none⟩ = some (.int .u64 (T 0)) := (by rw [obc hb2.1]; rfl);have s1 : w.cell? ⟨b2, 1, none⟩ = some (.int .u64 (T 1)) := (by rw [obc hb2.1]; rfl);have s2 : w.cell? ⟨b2, 2, none⟩ = some (.int .u64 (T 2)) := (by rw [obc hb2.1]; rfl);have s3 : w.cell? ⟨b2, 3, none⟩ = some (.int .u64 (T 3)) := (by rw [obc hb2.1]; rfl);have R1 := cell_regrown c1;have R2 := cell_regrown f2;have R0 := cell_regrown f0;have S0 := cell_regrown s0;have S1 := cell_regrown s1;have S2 := cell_regrown s2;have S3 := cell_regrown s3;have hc256 : c.toNat < 256 := c.toNat_lt;obtain ⟨cn, hcn⟩ : ∃ cn, cn = c.toNat := ⟨_, rfl⟩;rw [<- hcn] at hidx hc256;obtain ⟨r, hr⟩ : ∃ r, r = has T cn := ⟨_, rfl⟩
  have HAS := lh (show ∀ (dr : Nat) (os : Array Obj), Calls Tryz.prog 93 #[.agg #[.int .u64 (T 0), .int .u64 (T 1), .int .u64 (T 2), .int .u64 (T 3)], .int .u8 (cn : Int)] (grow (redrawn w dr) os) fun e w'' => e = .returned (.bool r) /\ ∃ p : Regrown, w'' = grow (redrawn w p.d) p.os from
   fun dr os => Calls.regrown_of (by rw [hr]; exact has_all T cn hc256 _))
  have hE : EndsR L (oneB F.T T) (onlyB i) (fun j => decide (j = i + 1) && r) := by
   refine ⟨fun j hj => ?_, fun a j ha hij hjl ho => ?_⟩
   ·simp only [Bool.and_eq_true, decide_eq_true_eq] at hj;obtain ⟨rfl, hrt⟩ := hj;refine ⟨i, onlyB_iff.2 rfl, by omega, ?_⟩;simp only [oneB, hTc, <- hcn, <- hr, hrt];simp
   ·rw [onlyB_iff] at ha;subst ha;simp only [oneB, hTc, <- hcn, <- hr, Bool.and_eq_true, beq_iff_eq] at ho;simp [ho.1, ho.2]
  have HE := lh hE;have hw1 : wrap64 ((i : Int) + 1) = ((i + 1 : Nat) : Int) := IntWalk.wrap64_in _ (by omega);have HI1 := lh (show i + 1 <= F.N from hiN);obtain ⟨q, hq⟩ : ∃ q, q = i + 1 := ⟨_, rfl⟩;rw [<- hq] at hw1 HI1 HE;have HADD := lh fun (W : World) (hs : Stp o cs0 T0 S fb F L W B p x) => add_is (w := W) (B := B) (p := p) (x := x) hs.own hs.hB q (by omega) (by omega);have HQ := lh (aI hq (show x.f <= q / 64 by omega));clear hb1 hb2 h hi hf hlim hsm hL hiN hc hTc hcn hr hE hc256 hq c1 f2 f0 s0 s1 s2 s3;go_enter Tryz.func92, Tryz.ntmps92;cases r
  ·go_upto_region 0 with fail;refine wp_region_quiet_below (by kernel_rfl) (by kernel_rfl) ?_
   repeat (go_big_quiet_step (with_reducible exact HAS.out _ _))
   refine wpQuiet_nil ?_;rintro w5 ⟨⟨dq, osq⟩, rfl⟩;have hb5 := below_regrown w dq osq;generalize grow (redrawn w dq) osq = w5 at hb5 ⊢;have HP := lh (show SteppedE o cs0 T0 S fb F L B p x i (oneB F.T T) w (.returned (.tuple #[])) w5 from ⟨rfl, x, noneB, rfl, HH.out.turned (HH.out.fin.below hb5) (Turned.of_below hb5), HE.out.congr (fun _ => rfl) (fun j => Bool.and_false _), fun j => (Bool.or_false _).symm, Turned.of_below hb5, fun k hk => .inl hk⟩);clear R0 R1 R2 S0 S1 S2 S3 hb5;go_wp2_with fail;go_end0
   exact HP.out
  ·go_upto_region 0 with fail;refine wp_region_quiet_below (by kernel_rfl) (by kernel_rfl) ?_
   repeat (go_big_quiet_step (with_reducible exact HAS.out _ _))
   refine wpQuiet_nil ?_;rintro w5 ⟨⟨dq, osq⟩, rfl⟩;have hb5 := below_regrown w dq osq;generalize grow (redrawn w dq) osq = w5 at hb5 ⊢;have HA := lh (HADD.out w5 (HH.out.turned (HH.out.fin.below hb5) (Turned.of_below hb5)));have HB := lh hb5;clear R0 R1 R2 S0 S1 S2 S3 hb5;go_wp2_with fail;go_at_call 53;refine HA.out.mono ?_;rintro e w2 ⟨rfl, ws', A', c', hO, hm, hl, hT, hk⟩;have hst := HH.out.turned (HH.out.fin.below HB.out) (Turned.of_below HB.out);obtain ⟨hs2, hnew⟩ := hst.add hO hT hk hl (by have := HI1.out; have := HQ.out.2; omega)
   have HP := lh (show SteppedE o cs0 T0 S fb F L B p x i (oneB F.T T) w (.returned (.tuple #[])) w2 from ⟨rfl, ⟨x.f, ws', A', c'⟩, fun j => decide (j = q), rfl, hs2, HE.out.congr (fun _ => rfl) (fun j => Bool.and_true _), hm,
    (Turned.of_below (S := fun k => k = F.mb \/ Tch p x k) HB.out).trans (T := Tch p x) hT fun k _ hk => .inr hk, fun k hk => (hnew k hk).imp_right fun h => Nat.le_trans HB.out.size h⟩)
   clear hO hm hl hT hk hst hs2 hnew;go_wp2_with fail;go_end0
   exact HP.out
 ·have z : decide ((i : Int) < (L : Int)) = false := dqf (by omega);have zn : decide (i < L) = false := dqf hL;have HE := lh (show EndsR L (oneB F.T T) (onlyB i) noneB from ⟨fun j hj => (by cases hj), fun a j ha hij hjl _ => by rw [onlyB_iff] at ha; omega⟩);have R1 := cell_regrown c1;have R2 := cell_regrown f2;clear hb1 hb2 h hi hf hlim hsm hL c1 f2 f0;go_enter Tryz.func92, Tryz.ntmps92;go_upto_region 0 with fail;refine wp_region_quiet_below (by kernel_rfl) (by kernel_rfl) ?_
  repeat (go_big_quiet_step (with_reducible exact rfl))
  refine wpQuiet_nil ?_;rintro w5 ⟨⟨dq, osq⟩, rfl⟩;have hb5 := below_regrown w dq osq;generalize grow (redrawn w dq) osq = w5 at hb5 ⊢;have HP := lh (show SteppedE o cs0 T0 S fb F L B p x i (oneB F.T T) w (.returned (.tuple #[])) w5 from ⟨rfl, x, noneB, rfl, HH.out.turned (HH.out.fin.below hb5) (Turned.of_below hb5), HE.out, fun j => (Bool.or_false _).symm, Turned.of_below hb5, fun k hk => .inl hk⟩);clear R1 R2 hb5;go_wp2_with fail;go_end0
  exact HP.out
end Go.Proofs.YtflkfleihlceeaaGreatDoor.J
namespace Go.Proofs.YtflkfleihlceeaaGreatDoor.J
open Go.RowKit Go.Deep Go.Sort Go.Proofs.YtflkfleihlceeaaGreatDoor
variable {o : Nat} {cs0 : Array Value} {T0 : TypeId}
theorem step_any {S : Nat -> Prop} {w : World} {fb L B p q : Nat} {F : FN} {x : Ix} (h : Stp o cs0 T0 S fb F L w B p x) {v : Value} (hv : StepV (fun k => S k \/ Tch p x k) w fb F.nds q v) : FromB fb F q -> ∀ d, F.nds[q]? = some d -> ∃ fid bs, v = funV fid bs /\ RunF fid ∧
  ∀ i, i <= F.N -> x.f <= i / 64 -> Calls Tryz.prog fid (#[.int .i64 (i : Int), .pointer (some ⟨p, o, none⟩)] ++ bs) w (SteppedE o cs0 T0 S fb F L B p x i (F.rel d.t) w) := by
 induction hv with
 | one hd hk hv =>
  rename_i k d0 v0;intro _ d hd';rw [hd] at hd';cases hd'
  obtain ⟨b1, b2, rfl, hb1, hb2⟩ := hv;refine ⟨_, _, rfl, runF_one1, fun i hi hf => ?_⟩
  have hr : F.rel d0.t = oneB F.T d0.x.set := by
   rw [h.fin.rel hd, hk];rfl
  rw [hr];exact step_one h hb1 hb2 hi hf
 | grp hd hk hq _ ih =>
  rename_i k q d0 v0 _;intro hFR d hd';rw [hd] at hd';cases hd'
  obtain ⟨q', d', h1, h2, h3, h4, _⟩ := h.fin.kid0 hd (.inr hk);rw [hq] at h1;cases h1
  have hr : F.rel d0.t = F.rel d'.t := by
   rw [h.fin.rel hd, hk, <- h4];rfl
  rw [hr];exact ih (fun j dj hj => hFR j dj (by omega)) d' h3
 | oth hd h1 h5 hb1 hb2 =>
  rename_i k b1 b2 d0;intro hFR d hd';rw [hd] at hd';cases hd'
  exact ⟨_, _, rfl, runF_step1, fun i hi hf => step_oth h hb1 hb2 hd hi hf (hFR k _ (nlr _) hd h1)⟩
theorem step_call {S : Nat -> Prop} {w : World} {fb L B p q : Nat} {F : FN} {x : Ix} (h : Stp o cs0 T0 S fb F L w B p x) {fid : FuncId} {bs : Array Value} (hv : StepV (fun k => S k \/ Tch p x k) w fb F.nds q (funV fid bs)) (hFR : FromB fb F q) {d : ND} (hd : F.nds[q]? = some d) {i : Nat} (hi : i <= F.N) (hf : x.f <= i / 64) : Calls Tryz.prog fid (#[.int .i64 (i : Int), .pointer (some ⟨p, o, none⟩)] ++ bs) w (SteppedE o cs0 T0 S fb F L B p x i (F.rel d.t) w) := by
 obtain ⟨fid', bs', hfn, _, hc⟩ := step_any h hv hFR d hd;injection hfn with h1 _ h2;injection h1 with h1;subst h1 h2;exact hc i hi hf
end Go.Proofs.YtflkfleihlceeaaGreatDoor.J
namespace Go.Proofs.YtflkfleihlceeaaGreatDoor.J
open Go.RowKit Go.Deep Go.Sort Go.Proofs.YtflkfleihlceeaaGreatDoor
variable {o : Nat} {cs0 : Array Value} {T0 : TypeId}
structure SprM (o : Nat) (cs0 : Array Value) (T0 : TypeId) (S : Nat -> Prop) (fb : Nat) (F : FN) (L q B p : Nat) (x : Ix) (K : Rel) (v : Value) (w : World) (c : Nat) (wr : World) (y : Ix) : Prop where
 stp : Stp o cs0 T0 S fb F L wr B p y
 fy : y.f = x.f
 snd : ∀ j, y.mem j = true -> ∃ k s, x.mem k = true /\ chainB K s k j = true
 cpl : ∀ a j, y.mem a = true -> a < c -> a < j -> j <= L -> K a j = true -> y.mem j = true
 mono : ∀ j, x.mem j = true -> y.mem j = true
 tur : Turned (fun k => k = F.mb \/ Tch p x k) w wr
 new : ∀ k, Tch p y k -> Tch p x k \/ w.heap.size <= k
 stv : StepV (fun k => S k \/ Tch p y k) wr fb F.nds q v
 nil : x.ws = [] -> y.ws = []
theorem SprM.start {S : Nat -> Prop} {fb L q B p : Nat} {F : FN} {x : Ix} {K : Rel} {v : Value} {w : World} (h : Stp o cs0 T0 S fb F L w B p x) (hv : StepV (fun k => S k \/ Tch p x k) w fb F.nds q v) : SprM o cs0 T0 S fb F L q B p x K v w 0 w x :=
 ⟨h, rfl, fun j hj => ⟨j, 0, hj, chain_zero.2 rfl⟩, fun a j _ h0 => by omega, fun _ h => h, Turned.refl _ _, fun _ h => .inl h, hv, id⟩
theorem SprM.go {S : Nat -> Prop} {fb L q B p c i : Nat} {F : FN} {x y y' : Ix} {K : Rel} {v : Value} {w wr w' : World} {E : Nat -> Bool} (h : SprM o cs0 T0 S fb F L q B p x K v w c wr y) (hs : Stepped o cs0 T0 S fb F L B p y i K wr w' y' E) (hi : y.mem i = true) (hn : ∀ k, c <= k -> k < i -> y.mem k = false) : SprM o cs0 T0 S fb F L q B p x K v w (i + 1) w' y' := by
 refine ⟨hs.stp, hs.fs.trans h.fy, fun j hj => ?_, fun a j ha hac haj hjl hr => ?_, fun j hj => ?_, ?_, fun k hk => ?_, ?_, fun e => by rw [mem_nil y (h.nil e) i] at hi; cases hi⟩
 ·rw [hs.mem, Bool.or_eq_true] at hj;rcases hj with hj | hj
  ·exact h.snd j hj
  ·obtain ⟨a, h1, h2, h3⟩ := hs.ends.snd j hj;rw [onlyB_iff] at h1;subst h1;obtain ⟨k, s, h4, h5⟩ := h.snd a hi;exact ⟨k, s + 1, h4, chain_add h5 (chain_one.2 ⟨h2, h3⟩)⟩
 ·rw [hs.mem, Bool.or_eq_true]
  have hya : y.mem a = true := by
   rw [hs.mem, Bool.or_eq_true] at ha;rcases ha with ha | ha
   ·exact ha
   ·obtain ⟨b, h1, h2, _⟩ := hs.ends.snd a ha;rw [onlyB_iff] at h1;omega
  by_cases hai : a = i
  ·subst hai;exact .inr (hs.ends.cpl a j (onlyB_iff.2 rfl) haj hjl hr)
  ·by_cases hac2 : a < c
   ·exact .inl (h.cpl a j hya hac2 haj hjl hr)
   ·rw [hn a (by omega) (by omega)] at hya;cases hya
 ·rw [hs.mem, h.mono j hj]; rfl
 ·exact h.tur.trans hs.tur fun k hk hk2 => hk2.elim .inl fun hk2 => (h.new k hk2).elim .inr fun h => by omega
 ·exact (hs.new k hk).elim (h.new k) fun h1 => .inr (Nat.le_trans h.tur.size h1)
 ·have h1 : StepV (fun k => (S k \/ Tch p y k) \/ Tch p y' k) wr fb F.nds q v := h.stv.fresh fun k hk => hk.elim .inl fun hk => (hs.new k hk).imp_left .inr;have h2 := h1.turned hs.tur fun k hk => .inl (hk.elim (fun hk => .inl (by rw [hk]; exact h.stp.sm)) .inr);exact h2.fresh fun k hk => .inl (hk.elim (fun hk => .inl (.inl hk)) .inr)
theorem SprM.below {S : Nat -> Prop} {fb L q B p c : Nat} {F : FN} {x y : Ix} {K : Rel} {v : Value} {w wr w' : World} (h : SprM o cs0 T0 S fb F L q B p x K v w c wr y) (hb : Below wr.heap.size wr w') : SprM o cs0 T0 S fb F L q B p x K v w c w' y :=
 ⟨h.stp.turned (h.stp.fin.below hb) (Turned.of_below hb), h.fy, h.snd, h.cpl, h.mono, h.tur.trans (T := fun _ => False) (Turned.of_below hb) fun _ _ hf => hf.elim, h.new, h.stv.turned (T := fun _ => False) (Turned.of_below hb) fun _k hk => hk.elim, h.nil⟩
theorem SprM.inN {S : Nat -> Prop} {fb L q B p c : Nat} {F : FN} {x y : Ix} {K : Rel} {v : Value} {w wr : World} (h : SprM o cs0 T0 S fb F L q B p x K v w c wr y) (hK : FitR F.N K) (hx : InN F.N x.mem) : InN F.N y.mem := fun j hj => by
 obtain ⟨k, s, h1, h2⟩ := h.snd j hj;exact (FitR.chain hK k j h2).2 (hx k h1)
theorem SprM.stop {S : Nat -> Prop} {fb L q B p c : Nat} {F : FN} {x y : Ix} {K : Rel} {v : Value} {w wr : World} (h : SprM o cs0 T0 S fb F L q B p x K v w c wr y) (hn : ∀ j, c <= j -> y.mem j = false) : SprR L K x.mem y.mem := by
 refine ⟨h.snd, fun k s => ?_⟩
 induction s with
 | zero =>
  intro j hk hc _;rw [chain_zero] at hc;subst hc;exact h.mono k hk
 | succ s ih =>
  intro j hk hc hj;obtain ⟨a, _, h2, h3, h4⟩ := chain_snoc.1 hc;have ha := ih a hk h3 (by omega);refine h.cpl a j ha ?_ h2 hj h4;exact Decidable.byContradiction fun hac => by rw [hn a (by omega)] at ha; cases ha
structure Spread (o : Nat) (cs0 : Array Value) (T0 : TypeId) (S : Nat -> Prop) (fb : Nat) (F : FN) (L B p : Nat) (x : Ix) (K : Rel) (w w' : World) (y : Ix) : Prop where
 stp : Stp o cs0 T0 S fb F L w' B p y
 fy : y.f = x.f
 is : SprR L K x.mem y.mem
 tur : Turned (fun k => k = F.mb \/ Tch p x k) w w'
 new : ∀ k, Tch p y k -> Tch p x k \/ w.heap.size <= k
 nil : x.ws = [] -> y.ws = []
def SpreadE (o : Nat) (cs0 : Array Value) (T0 : TypeId) (S : Nat -> Prop) (fb : Nat) (F : FN) (L B p : Nat) (x : Ix) (K : Rel) (w : World) (e : Ending) (w' : World) : Prop := e = .returned (.tuple #[]) /\ ∃ y, Spread o cs0 T0 S fb F L B p x K w w' y
set_option maxRecDepth 100000 in
set_option maxHeartbeats 600000 in
theorem spread_is {S : Nat -> Prop} {w : World} {fb L B p q : Nat} {F : FN} {x : Ix} (h : Stp o cs0 T0 S fb F L w B p x) {v : Value} (hv : StepV (fun k => S k \/ Tch p x k) w fb F.nds q v) {d : ND} (hd : F.nds[q]? = some d) (hFR : FromB fb F q) (hx : InN F.N x.mem) : Calls Tryz.prog 102 #[v, .pointer (some ⟨p, o, none⟩)] w (SpreadE o cs0 T0 S fb F L B p x (F.rel d.t) w) := by
 obtain ⟨fid, bs, hfv, hrf⟩ := stepv_form hv;subst hfv;have hsm := h.fin.small;have HNX := lh fun (wr : World) (y : Ix) (h : Stp o cs0 T0 S fb F L wr B p y) (i : Nat) (hi : i < 1099511627776) => next_ix (own_ix (S := fun _ => False) h.own.row (fun k hk => hk.elim) h.own.ok h.fits) (by omega) i hi h.fin.deb;have HSC := lh fun (wr : World) (y : Ix) (i : Nat) (h : Stp o cs0 T0 S fb F L wr B p y) (hv : StepV (fun k => S k \/ Tch p y k) wr fb F.nds q (funV fid bs)) (hi : i <= F.N) (hf : y.f <= i / 64) => step_call h hv hFR hd hi hf;unfold Ix.v at HNX;have HS := lh (SprM.start (K := F.rel d.t) h hv);have HIN := lh hx;have HSM := lh hsm;have HFT := lh (F.fit d.t);obtain ⟨K, hK⟩ : ∃ K, K = F.rel d.t := ⟨_, rfl⟩;rw [<- hK] at HSC HS HFT ⊢;obtain ⟨m, hm⟩ : ∃ m, m = x.ws.length := ⟨_, rfl⟩;have c0 := h.own.c0;have c1 := h.own.c1;rw [<- hm] at c1;have HN0 := lh (HNX.out w x h 0 (by decide));rw [<- hm] at HN0;have hpl : p < w.heap.size := World.block_lt_of_cell? w _ c0;unfold RunF at hrf;clear hv hd hFR hx hsm h hK hm;go_enter Tryz.func102, Tryz.ntmps102;go_wp2_with fail;go_at_call 94;refine HN0.out.mono ?_;rintro e w1 ⟨r0, rfl, hr0, hb1⟩;have HR0 := lh hr0;have HS1 := lh (HS.out.below hb1);clear hr0 hb1 c0 c1 hpl;go_upto_region 1 with fail;go_loopw [4] (fun iv wr => ∃ (c : Nat) (r : Int) (y : Ix), iv = .int .i64 r /\ Hid (NextIs y c r) /\ Hid (SprM o cs0 T0 S fb F L q B p x K (funV fid bs) w c wr y)) (fun iv _ => if intOf iv < 0 then 0 else F.N + 1 - (intOf iv).toNat)
 case atStart => exact ⟨0, r0, x, rfl, HR0, HS1⟩
 case round =>
  obtain ⟨c, r, y, rfl, HR, HY⟩ := hrel;rcases HR.out with ⟨rfl, hn⟩ | ⟨i, rfl, hci, hi, hl⟩
  ·have HP := lh (show SpreadE o cs0 T0 S fb F L B p x K w (.returned (.tuple #[])) wr from ⟨rfl, y, HY.out.stp, HY.out.fy, HY.out.stop hn, HY.out.tur, HY.out.new, HY.out.nil⟩);clear hn;go_wp2_with fail;go_end0
   exact HP.out
  ·have hiN : i <= F.N := HY.out.inN HFT.out HIN.out i hi;have hi5 : i <= 100000 := Nat.le_trans hiN HSM.out;have hi0 : decide ((0 : Int) <= (i : Int)) = true := dqt (by omega);have hw1 : wrap64 ((i : Int) + 1) = ((i + 1 : Nat) : Int) := IntWalk.wrap64_in _ (by omega);obtain ⟨i1, hi1⟩ : ∃ i1, i1 = i + 1 := ⟨_, rfl⟩;rw [<- hi1] at hw1;have HST := lh (HSC.out wr y i HY.out.stp HY.out.stv hiN (mem_f hi));have HI := lh (aI hci (aI hi (aI hl (aI hiN hi1))));have hi15 : i1 < 1099511627776 := (by omega);clear hci hi hl hiN hi1 hi5;go_wp2_with fail;refine HST.out.mono ?_;rintro e w4 ⟨rfl, y', E, hs⟩;have hgo := HY.out.go hs HI.out.2.1 HI.out.2.2.1;have HG := lh hgo;obtain ⟨n, hny⟩ : ∃ n, n = y'.ws.length := ⟨_, rfl⟩;have p0 := hgo.stp.own.c0;have p1 := hgo.stp.own.c1;rw [<- hny] at p1;have pl : p < w4.heap.size := World.block_lt_of_cell? w4 _ p0;have HN4 := lh (HNX.out w4 y' hgo.stp i1 hi15);rw [<- hny] at HN4;clear hs hgo hny;go_wp2_with fail;go_at_call 94;refine HN4.out.mono ?_;rintro e w5 ⟨r', rfl, hr', hb5⟩;have HR' := lh hr'
   have HG5 := lh (show SprM o cs0 T0 S fb F L q B p x K (funV fid bs) w i1 w5 y' by
    rw [HI.out.2.2.2.2]
    exact HG.out.below hb5)
   clear hr' hb5 p0 p1 pl;go_wp2_with fail;go_roundw
   case rel => exact ⟨i1, r', y', rfl, HR', HG5⟩
   case measure =>
    have hi := HI.out;simp only [intOf];refine after_meas hi.2.2.2.1 ?_;rcases HR'.out with ⟨h, _⟩ | ⟨j, h, hj, hjx, _⟩
    ·exact .inl h
    ·exact .inr ⟨j, h, by omega, HG5.out.inN HFT.out HIN.out j hjx⟩
end Go.Proofs.YtflkfleihlceeaaGreatDoor.J
namespace Go.Proofs.YtflkfleihlceeaaGreatDoor
open Go.RowKit Go.Deep Go.Sort
theorem owns_base {w : World} {B B' : Nat} {e : TypeId} {sz n : Nat} {v : Value} {vs : List Value} (h : w.ownsRow B' e sz v n vs) (hB : B <= B') : w.ownsRow B e sz v n vs := by
 refine ⟨h.1, h.2.imp id ?_⟩;rintro ⟨g, cap, cur, e1, hb, rest⟩;exact ⟨g, cap, cur, e1, Nat.le_trans hB hb, rest⟩
def OwnRet (N a : Nat) (P : Nat -> Bool) (w : World) (e : Ending) (w' : World) : Prop := ∃ x : Ix, e = .returned x.v /\ MadeI (fun k => k < w.heap.size) N a w w' x P /\ Below w.heap.size w w' /\ w'.ownsRow w.heap.size 23 1 (.slice x.A x.ws.length x.c) x.ws.length (wsV x.ws)
theorem only_post' {w w1 w3 : World} {i N f L c' : Nat} {ws' : List Nat} {A' : Option Addr} (hi : i <= N) (hf : f = i / 64) (hs1 : w.heap.size + 1 <= w1.heap.size) (hO : OwnI w3 w1.heap.size w1.heap.size ⟨f, ws', A', c'⟩) (hm : ∀ j, memN f ws' j = (memN f [] j || decide (j = i))) (hlen : ws'.length = max ([] : List Nat).length (f - f + 1)) (hb : Below w.heap.size w w3) (hL : L = ws'.length) :
  OwnRet N i (fun j => decide (j = i)) w (.returned (.agg #[.int .i64 (f : Int), .slice A' L c'])) ((w3.setCell ⟨w.heap.size, 0, none⟩ (.int .i64 (f : Int))).setCell ⟨w.heap.size, 1, none⟩ (.slice A' L c')) := by
 subst hL;have ht := ((Turned.refl (fun k => k < w1.heap.size) w3).put' (k := w.heap.size) (by omega) 0 (.int .i64 (f : Int))).put' (k := w.heap.size) (by omega) 1 (.slice A' ws'.length c');have hx := (hO.ix (N := N) (by simp only [hlen, List.length_nil]; omega)).turned ht;refine ⟨⟨f, ws', A', c'⟩, rfl, ⟨hx.weaken fun k hk => by omega, fun j => ?_, .inr (by simp only [hf]; exact nlr _)⟩, (hb.setCell (nlr _) _).setCell (nlr _) _, ?_⟩
 ·show memN f ws' j = _;rw [hm j]
  have : memN f [] j = false := by
   unfold memN wordN;split
   ·exact Nat.zero_testBit _
   ·exact Nat.zero_testBit _
  rw [this, Bool.false_or]
 ·refine owns_base (ownsRow_turned hO.row ht fun k hk => ?_) (by omega : w.heap.size <= w1.heap.size);have := (World.ownsRow.lt hO.row k hk).1;omega
set_option maxRecDepth 100000 in
theorem only_own (i N : Nat) (hi : i <= N) (hN : N < 1000000000000) (w : World) : Calls Tryz.prog 30 #[.int .i64 (i : Int)] w (OwnRet N i (fun j => decide (j = i)) w) := by
 have HS := lh fun (W : World) => since_is i (by omega) W;have HA := lh fun (W : World) => add_is (OwnI.nil W W.heap.size (i / 64)) (by rw [World.size_alloc]; omega) i (nlr _) (by omega);have HI := lh (aI hi hN);unfold Ix.v at HS;simp only [List.length_nil] at HS;obtain ⟨f, hf⟩ : ∃ f, f = i / 64 := ⟨_, rfl⟩;have HF := lh hf;rw [<- hf] at HS HA;clear hi hN hf;go_enter Tryz.func30, Tryz.ntmps30;go_wp2_with fail;go_at_call 52;refine (HS.out _).mono ?_;rintro e w1 ⟨rfl, hb1⟩;have hs1 := hb1.size;rw [World.size_alloc] at hs1;have HB1 := lh ((bW w _).trans (hb1.mono (by rw [World.size_alloc]; omega)));have ho1 := Below.obj hb1 (heap_alloc_new w (.cells #[.int .i64 0, .slice none 0 0] 68)) (by rw [World.size_alloc]; omega);have HO1 := lh ho1;have HAA := lh (HA.out w1);have HS1 := lh hs1;clear hb1 ho1 hs1;go_wp2_with fail;go_at_call 53;refine HAA.out.mono ?_;rintro e w3 ⟨rfl, ws', A', c', hO, hmem, hlen, hT, hk⟩;have ho3 := hT.obj (Below.obj (bW w1 (.cells #[.int .i64 (f : Int), .slice none 0 0] 68)) HO1.out (by have := HS1.out; omega)) (fun h => by have := tch_nil _ _ h; have := HS1.out; omega);have hb3 : Below w.heap.size w w3 := (HB1.out.alloc HB1.out.size _).trans (hT.to_below (by have := HS1.out; rw [World.size_alloc]; omega) (fun k h => by have := tch_nil _ _ h; have := HS1.out; omega));have c0 := hO.c0;have c1 := hO.c1;simp only at c0 c1;obtain ⟨L, hL⟩ : ∃ L, L = ws'.length := ⟨_, rfl⟩;rw [<- hL] at c1;have r0 := obc ho3 0;have r1 := obc ho3 1;have g0 : w3.frozen? ⟨w.heap.size, 0, none⟩ = false := (by simp [World.frozen?, ho3]);have g1 : w3.frozen? ⟨w.heap.size, 1, none⟩ = false := (by simp [World.frozen?, ho3]);simp at r0 r1;have HO := lh (aI hO (aI hmem (aI hlen (aI hb3 hL))));clear hO hmem hlen hT hk hb3 hL;go_wp2_with fail;have hlt : w.heap.size < w3.heap.size := lts ho3;refine bodyPost_ret (v := .agg #[.int .i64 (f : Int), .slice A' L c']) (by simp [results, Tryz.results30, go_sem, r0, r1]) rfl ?_;exact only_post' HI.out.1 HF.out HS1.out HO.out.1 HO.out.2.1 HO.out.2.2.1 HO.out.2.2.2.1 HO.out.2.2.2.2
def PX (S : Nat -> Prop) (G : Option Addr) (n c : Nat) (x : Ix) (k : Nat) : Prop := (S k \/ rblk G n c k) \/ x.sl.ownBlock = some k
structure GO (S : Nat -> Prop) (fb : Nat) (F : FN) (L q : Nat) (v : Value) (w wr : World) (G : Option Addr) (c : Nat) (ys : List Ix) (i : Nat) (x : Ix) : Prop where
 gm : GoalM S fb F L w wr G c ys
 len : ys.length = i + 1
 lst : ys[i]? = some x
 own : wr.ownsRow w.heap.size 23 1 (.slice x.A x.ws.length x.c) x.ws.length (wsV x.ws)
 far : ∀ k, x.sl.ownBlock = some k -> ¬ rblk G ys.length c k
 fin : FindAt (PX S G ys.length c x) wr fb F L
 oth : ∀ (j : Nat) (y : Ix), j < i -> ys[j]? = some y -> IxAt (PX S G ys.length c x) F.N wr y
 stv : StepV (PX S G ys.length c x) wr fb F.nds q v
theorem GO.start {S : Nat -> Prop} {fb L q : Nat} {v : Value} {F : FN} {w wo w1 : World} (hf : FindAt S w fb F L) (hbo : Below w.heap.size w wo) (hst : StepV S wo fb F.nds q v) (hb1 : Below wo.heap.size wo w1) {x : Ix} (hown : w1.ownsRow wo.heap.size 23 1 (.slice x.A x.ws.length x.c) x.ws.length (wsV x.ws)) (hx : IxAt S F.N w1 x) :
  GO S fb F L q v w (w1.alloc (.cells #[.int .i64 (x.f : Int), .slice x.A x.ws.length x.c] 68)) (some ⟨w1.heap.size, 0, none⟩) 1 [x] 0 x := by
 have hbw1 : Below w.heap.size w w1 := hbo.trans (hb1.mono hbo.size);have hbW := bW w1 (.cells #[.int .i64 (x.f : Int), .slice x.A x.ws.length x.c] 68)
 have hrb : ∀ k, rblk (some ⟨w1.heap.size, 0, none⟩) 1 1 k -> k = w1.heap.size := fun k e => by
  have e2 : some w1.heap.size = some k := e;injection e2 with e2;exact e2.symm
 have hol : ∀ k, x.sl.ownBlock = some k -> wo.heap.size <= k /\ k < w1.heap.size := fun k hk => ⟨(World.ownsRow.lt hown k hk).1, own_lt hown hk⟩
 have hnew : ∀ k, PX S (some ⟨w1.heap.size, 0, none⟩) 1 1 x k -> S k \/ wo.heap.size <= k := fun k hk => by
  rcases hk with (hk | hk) | hk
  ·exact .inl hk
  ·right; rw [hrb k hk]; exact hb1.size
  ·exact .inr (hol k hk).1
 have hf1 := hf.below hbo;refine ⟨GoalM.lit hf hbw1 hx, rfl, rfl, ?_, fun k hk e => ?_, ?_, fun j y hj => by omega, ?_⟩
 ·exact owns_base (ownsRow_turned (S := fun _ => False) hown (Turned.of_below hbW) fun _ _ h => h) hbo.size
 ·have := hol k hk;rw [hrb k e] at this;omega
 ·refine hf1.priv (hb1.trans (hbW.mono hb1.size)) (fun k hk => .inl (.inl hk)) hnew fun k hk => ?_;rw [World.size_alloc];rcases hk with (hk | hk) | hk
  ·have := hf1.old k hk; have := hb1.size; omega
  ·rw [hrb k hk]; omega
  ·have := hol k hk; omega
 ·exact (hst.fresh hnew).turned (T := fun _ => False) (Turned.of_below (hb1.trans (hbW.mono hb1.size))) fun k h => h.elim
theorem GO.push {S : Nat -> Prop} {fb L q i l c : Nat} {v : Value} {F : FN} {w wr w' : World} {G : Option Addr} {ys : List Ix} {x y : Ix} {R : (Nat -> Bool) -> Prop} (h : GO S fb F L q v w wr G c ys i x) (ha : Aft (fun k => S k \/ rblk G ys.length c k) fb F L l R wr w' y) (hi : i <= 1000000 - 1) :
  ∃ G' c' w4, (Builtin.append_ #[153, 153] 153 #[.slice G ys.length c, .slice (some ⟨w'.heap.size, 0, none⟩) 1 1]).run Tryz.prog (w'.alloc (.cells #[.int .i64 (y.f : Int), .slice y.A y.ws.length y.c] 68)) = .ok (.slice G' (ys.length + 1) c') w4 /\ GO S fb F L q v w w4 G' c' (ys ++ [y]) (i + 1) y := by
 have hg := ha.got h.gm.fin;have hgm := h.gm.got hg.fin hg.tur;obtain ⟨G', c', w4, hap, hgm4⟩ := hgm.push hg.at' (by rw [h.len]; omega);have hb3 := bW w' (.cells #[.int .i64 (y.f : Int), .slice y.A y.ws.length y.c] 68);have hr3 : (w'.alloc (.cells #[.int .i64 (y.f : Int), .slice y.A y.ws.length y.c] 68)).ownsRow 0 68 2 (.slice G ys.length c) ys.length (ixsV ys) := ownsRow_turned (S := fun _ => False) hgm.row (Turned.of_below hb3) fun _ _ hf => hf
 obtain ⟨v', w4', hap', hown, hgr, hk⟩ := run_append_raw elem_ix hr3 (some ⟨w'.heap.size, 0, none⟩) 1 1 y.cells (.inr ⟨w'.heap.size, 0, rfl, fun j v hv => by
  rw [Nat.zero_add, obc (heap_alloc_new w' _), List.getElem?_toArray]
  exact hv⟩) rfl (fun u hu => oneCell_ixs (xs := [y]) u (by simpa [ixsV] using hu)) (by rw [h.len]; omega) (Nat.zero_le _)
 rw [hap] at hap';injection hap' with e1 e2;subst e1 e2;have hT4 : Turned (rblk G ys.length c) w' w4 := (Turned.of_below (S := rblk G ys.length c) hb3).trans (Turned.of_grown (S := rblk G ys.length c) hgr fun k hk => hk) fun _ _ h => h;have hln : (ys ++ [y]).length = ys.length + 1 := (by simp)
 have hnew : ∀ k, rblk G' (ys ++ [y]).length c' k -> rblk G ys.length c k \/ w'.heap.size <= k := fun k e => by
  rw [hln] at e;exact (hk k e).imp_right fun e => by rw [World.size_alloc] at e; omega
 have hol : ∀ k, y.sl.ownBlock = some k -> wr.heap.size <= k /\ k < w'.heap.size := fun k hk => ⟨(World.ownsRow.lt ha.own k hk).1, own_lt ha.own hk⟩;have hrl : ∀ k, rblk G ys.length c k -> k < wr.heap.size := fun k hk => own_lt h.gm.row hk
 have hS : ∀ k, PX S G' (ys ++ [y]).length c' y k -> ((S k \/ rblk G ys.length c k) \/ y.sl.ownBlock = some k) \/ w'.heap.size <= k := fun k hk => by
  rcases hk with (hk | hk) | hk
  ·exact .inl (.inl (.inl hk))
  ·exact (hnew k hk).imp_left fun h => .inl (.inr h)
  ·exact .inl (.inr hk)
 have hT4P : Turned (fun k => (S k \/ rblk G ys.length c k) \/ y.sl.ownBlock = some k) w' w4 := turned_mono hT4 fun k hk => .inl (.inr hk);have hmbS : S F.mb := h.gm.sm
 have key : ∀ {z : Ix}, IxAt (fun k => S k \/ rblk G ys.length c k) F.N wr z -> IxAt (PX S G' (ys ++ [y]).length c' y) F.N w4 z := fun {z} hz => by
  have h1 : IxAt (fun k => (S k \/ rblk G ys.length c k) \/ y.sl.ownBlock = some k) F.N wr z := hz.fresh fun k hk => hk.imp_right fun e => (hol k e).1;have h2 := h1.turned (turned_mono ha.tur fun k hk => by rw [hk]; exact .inl (.inl hmbS));have h3 : IxAt (fun k => ((S k \/ rblk G ys.length c k) \/ y.sl.ownBlock = some k) \/ PX S G' (ys ++ [y]).length c' y k) F.N w' z := h2.fresh fun k hk => hk.elim .inl (hS k);exact (h3.turned (turned_mono hT4P fun k hk => .inl hk)).weaken fun k hk => .inr hk
 refine ⟨G', c', w4, hap, hgm4, by rw [hln, h.len], ?_, ?_, fun k hk e => ?_, ?_, fun j z hj hz => ?_, ?_⟩
 ·rw [List.getElem?_append_right (by rw [h.len]; exact nlr _), h.len, Nat.sub_self];rfl
 ·refine owns_base (ownsRow_turned ha.own hT4 fun k hk e => ?_) h.gm.tur.size;have := (hol k hk).1;have := hrl k e;omega
 ·have h1 := hol k hk;rcases hnew k e with e | e
  ·have := hrl k e; omega
  ·omega
 ·refine ha.fin.go hT4 (fun k hk _ => ⟨.inl (.inr hk), (h.gm.mb hk).1, (h.gm.mb hk).2⟩) (.inl (.inl h.gm.sm)) (.inl (.inl h.gm.sf)) hS fun k hk => ?_;rcases hk with (hk | hk) | hk
  ·exact hgm4.fin.old k (.inl hk)
  ·exact hgm4.fin.old k (.inr hk)
  ·have := (hol k hk).2; have := hT4.size; omega
 ·by_cases hji : j < ys.length
  ·rw [List.getElem?_append_left hji] at hz;exact key (h.gm.sets z (List.mem_of_getElem? hz))
  ·have := h.len;omega
 ·have h1 : StepV (fun k => (S k \/ rblk G ys.length c k) \/ y.sl.ownBlock = some k) wr fb F.nds q v := h.stv.fresh fun k hk => by
   rcases hk with hk | hk
   ·exact .inl (.inl hk)
   ·exact .inr (hol k hk).1
  have h2 := h1.turned ha.tur fun k hk => by rw [hk]; exact .inl (.inl hmbS)
  have h3 : StepV (fun k => ((S k \/ rblk G ys.length c k) \/ y.sl.ownBlock = some k) \/ PX S G' (ys ++ [y]).length c' y k) w' fb F.nds q v := h2.fresh fun k hk => hk.elim .inl (hS k);exact (h3.turned hT4P fun k hk => .inl hk).fresh fun k hk => .inl (.inr hk)
theorem GO.below {S : Nat -> Prop} {fb L q i c : Nat} {v : Value} {F : FN} {w wr w' : World} {G : Option Addr} {ys : List Ix} {x : Ix} (h : GO S fb F L q v w wr G c ys i x) (hb : Below wr.heap.size wr w') : GO S fb F L q v w w' G c ys i x :=
 ⟨h.gm.below hb, h.len, h.lst, ownsRow_turned (S := fun _ => False) h.own (Turned.of_below hb) fun _ _ h => h, h.far, h.fin.below hb, fun j y hj hy => (h.oth j y hj hy).stays hb, h.stv.turned (T := fun _ => False) (Turned.of_below hb) fun _k h => h.elim⟩
open Go.RowKit Go.Deep Go.Sort
theorem tch_px {S : Nat -> Prop} {g n c : Nat} {x : Ix} {k : Nat} (h : S k \/ Tch g x k) : PX S (some ⟨g, 0, none⟩) n c x k := by
 rcases h with h | h | h
 ·exact .inl (.inl h)
 ·rw [h]; exact .inl (.inr rfl)
 ·exact .inr h
theorem own_ixat {S : Nat -> Prop} {w : World} {B N : Nat} {y : Ix} (h : w.ownsRow B 23 1 (.slice y.A y.ws.length y.c) y.ws.length (wsV y.ws)) (hS : ∀ k, y.sl.ownBlock = some k -> ¬ S k) (hok : OkW y.ws) (hf : y.f + y.ws.length <= N / 64 + 1) : IxAt S N w y := by
 refine ⟨?_, ?_, hok, hf⟩
 ·rcases h.2 with ⟨e, hn⟩ | ⟨g, cap, cur, e, hb, hg, hnc, hcm, hcs, htake⟩
  ·exact .inl (by rw [List.eq_nil_of_length_eq_zero hn]; rfl)
  ·have e1 : y.A = some ⟨g, 0, none⟩ := (by injection e);refine .inr ⟨g, 0, e1, hS g (by unfold Ix.sl; rw [e1]; rfl), fun j v hv => ?_⟩;have := World.ownsRow.cells h (g := g) (by rw [e1]; rfl) j v hv;rw [Addr.add_mid, Nat.zero_add] at this;rw [Nat.zero_add];exact this
 ·rcases h.2 with ⟨e, hn⟩ | ⟨g, cap, cur, e, hb, hg, hnc, hcm, hcs, htake⟩
  ·rw [hn]; exact Nat.zero_le _
  ·injection e with _ _ e3;rw [e3];exact hnc
theorem row_obj {w : World} {e : TypeId} {g n c : Nat} {xs : List Ix} (h : w.ownsRow 0 e 2 (.slice (some ⟨g, 0, none⟩) n c) n (ixsV xs)) : ∃ cs, w.heap[g]? = some (.cells cs e (0, 0)) /\ n <= c /\ c <= maxLen /\ cs.size = c * 2 /\ cs.toList.take (n * 2) = ixsV xs := by
 rcases h.2 with ⟨e, hn⟩ | ⟨g', cap, cur, e, hb, hg, hnc, hcm, hcs, htake⟩
 ·cases e
 ·simp only [Value.slice.injEq, Option.some.injEq, Addr.mk.injEq, and_true, true_and] at e;obtain ⟨rfl, rfl⟩ := e;exact ⟨cur, hg, hnc, hcm, hcs, htake⟩
theorem GO.stp {S : Nat -> Prop} {fb L q i c g : Nat} {v : Value} {F : FN} {w wr : World} {ys : List Ix} {x : Ix} (h : GO S fb F L q v w wr (some ⟨g, 0, none⟩) c ys i x) :
  ∃ cs0, wr.heap[g]? = some (.cells cs0 68 (0, 0)) /\ J.Stp (i * 2) cs0 68 S fb F L wr w.heap.size g x /\ StepV (fun k => S k \/ Tch g x k) wr fb F.nds q v := by
 obtain ⟨cs0, ho, hnc, hcm, hcs, htake⟩ := row_obj h.gm.row;obtain ⟨g', e, _, hgl, m0, m1, f0, f1⟩ := h.gm.cell h.lst;cases e
 have hx := h.gm.sets x (List.mem_of_getElem? h.lst);refine ⟨cs0, ho, ⟨h.fin.weaken (.inl h.gm.sm) (.inl h.gm.sf) fun k hk => tch_px hk, ⟨m0, m1, f0, f1, h.own, hx.ok, fun k hk e => h.far k hk (by rw [e]; rfl), cs0, ho, rfl, fun _ _ _ => rfl⟩, h.gm.tur.size, h.gm.fr g rfl, h.gm.sS, h.gm.sm, h.gm.sf, hx.fits⟩, h.stv.fresh fun k hk => .inl (tch_px hk)⟩
theorem GO.spread {S : Nat -> Prop} {fb L q i c g : Nat} {v : Value} {F : FN} {w wr w' : World} {ys : List Ix} {x y : Ix} {K : Rel} (h : GO S fb F L q v w wr (some ⟨g, 0, none⟩) c ys i x) {cs0 : Array Value} (ho : wr.heap[g]? = some (.cells cs0 68 (0, 0))) (hs : J.Spread (i * 2) cs0 68 S fb F L w.heap.size g x K wr w' y) : GoalM S fb F L w w' (some ⟨g, 0, none⟩) c (ys.set i y) := by
 obtain ⟨cs1, ho1, hnc, hcm, hcs, htake⟩ := row_obj h.gm.row;rw [ho] at ho1;injection ho1 with ho1;injection ho1 with ho1;subst ho1;obtain ⟨cs, hcs1, hcs2, hcs3⟩ := hs.stp.own.obj;have hln : (ys.set i y).length = ys.length := List.length_set;have hil : i < ys.length := (by rw [h.len]; exact Nat.lt_succ_self _);have hc0 := hs.stp.own.c0;have hc1 := hs.stp.own.c1;rw [obc hcs1] at hc0 hc1;refine ⟨?_, ⟨by rw [ixsV_len, hln], .inr ⟨g, c, cs, by rw [hln], Nat.zero_le _, hcs1, by rw [hln]; exact hnc, hcm, hcs2.trans hcs, ?_⟩⟩, fun z hz => ?_, by rw [hln]; exact h.gm.fr, h.gm.sS, h.gm.sm, h.gm.sf, h.gm.tur.trans hs.tur fun k hk hk2 => ?_⟩
 ·rw [hln]
  exact hs.stp.fin.weaken (.inl h.gm.sm) (.inl h.gm.sf) fun k hk => hk.imp_right fun e => by
   left;have e : some g = some k := e;injection e with e;exact e.symm
 ·rw [hln, <- ixsV_set hil, <- htake];apply List.ext_getElem?;intro j;by_cases hj : j < ys.length * 2
  ·rw [List.getElem?_take_of_lt hj, Array.getElem?_toList, List.getElem?_set, List.getElem?_set];have hjl : j < (cs0.toList.take (ys.length * 2)).length := (by rw [List.length_take]; have e1 : cs0.toList.length = cs0.size := Array.length_toList; have e2 : ys.length <= c := hnc; omega);by_cases h1 : i * 2 + 1 = j
   ·subst h1;rw [if_pos rfl, if_pos (by rw [List.length_set]; exact hjl)];exact hc1
   ·rw [if_neg h1];by_cases h0 : i * 2 = j
    ·subst h0;rw [if_pos rfl, if_pos hjl];exact hc0
    ·rw [if_neg h0, List.getElem?_take_of_lt hj, Array.getElem?_toList];exact hcs3 j (by omega) (by omega)
  ·rw [List.getElem?_eq_none, List.getElem?_eq_none]
   ·rw [List.length_set, List.length_set, List.length_take]; omega
   ·rw [List.length_take]; omega
 ·rw [hln]
  have hfar : ∀ k, y.sl.ownBlock = some k -> ¬ (S k \/ rblk (some ⟨g, 0, none⟩) ys.length c k) := fun k hk e => by
   have h1 := (World.ownsRow.lt hs.stp.own.row k hk).1;rcases e with e | e
   ·have := h.gm.sS k e; omega
   ·have e : some g = some k := e;injection e with e;exact hs.stp.own.ne k hk e.symm
  rcases List.mem_or_eq_of_mem_set hz with _ | hz'
  ·obtain ⟨j, hj⟩ := List.getElem?_of_mem hz;rcases get_set hj hil with ⟨_, e2⟩ | ⟨e1, e2⟩
   ·rw [e2];exact own_ixat hs.stp.own.row hfar hs.stp.own.ok hs.stp.fits
   ·have hjl := (List.getElem?_eq_some_iff.1 e2).1;have h1 := h.oth j z (by have := h.len; omega) e2;refine (h1.turned (turned_mono hs.tur fun k hk => ?_)).weaken fun k hk => .inl hk;rcases hk with hk | hk
    ·rw [hk]; exact .inl (.inl h.gm.sm)
    ·exact tch_px (.inr hk)
  ·rw [hz'];exact own_ixat hs.stp.own.row hfar hs.stp.own.ok hs.stp.fits
 ·rcases hk2 with e | e
  ·exact e
  ·rcases e with e | e
   ·rw [e] at hk; have := h.gm.fr g rfl; omega
   ·have := (World.ownsRow.lt h.own k e).1; omega
open Go.RowKit Go.Deep Go.Sort
structure LastF (N : Nat) (K : Rel) (lo hi : Int) (a z last : Nat) : Prop where
 neg : hi < 0 -> ∃ least, LeastR N K lo least /\ last = min least (z - a)
 pos : ¬ hi < 0 -> (last : Int) = min hi ((z - a : Nat) : Int)
structure FwdP (N L : Nat) (K : Rel) (a j : Nat) (y : Ix) : Prop where
 snd : ∀ e, y.mem e = true -> chainB K j a e = true
 cpl : ∀ e, e <= L -> chainB K j a e = true -> y.mem e = true
 low : y.low a
 inN : InN N y.mem
structure RP1 (S : Nat -> Prop) (fb : Nat) (F : FN) (L q : Nat) (v : Value) (K : Rel) (a : Nat) (w : World) (i : Nat) (wr : World) (G : Option Addr) (c : Nat) (ys : List Ix) (x : Ix) : Prop where
 go : GO S fb F L q v w wr G c ys i x
 fwd : ∀ (j : Nat) (y : Ix), ys[j]? = some y -> FwdP F.N L K a j y
theorem FwdP.step {N L a i : Nat} {K : Rel} {x y : Ix} (h : FwdP N L K a i x) (hK : FitR N K) (hy : EndsR L K x.mem y.mem) (hl : y.low a) : FwdP N L K a (i + 1) y := by
 refine ⟨fun e he => ?_, fun e he hc => ?_, hl, hy.inN hK h.inN⟩
 ·obtain ⟨k, h1, h2, h3⟩ := hy.snd e he;exact chain_add (h.snd k h1) (chain_one.2 ⟨h2, h3⟩)
 ·obtain ⟨k, _, h2, h3, h4⟩ := chain_snoc.1 hc;exact hy.cpl k e (h.cpl k (by omega) h3) h2 he h4
theorem RP1.step {S : Nat -> Prop} {fb L q i a c c' : Nat} {v : Value} {K : Rel} {F : FN} {w wr w' : World} {G G' : Option Addr} {ys : List Ix} {x y : Ix} (h : RP1 S fb F L q v K a w i wr G c ys x) (hg : GO S fb F L q v w w' G' c' (ys ++ [y]) (i + 1) y) (hK : FitR F.N K) (hy : EndsR L K x.mem y.mem) (hl : y.low a) : RP1 S fb F L q v K a w (i + 1) w' G' c' (ys ++ [y]) y := by
 refine ⟨hg, fun j u hu => ?_⟩;by_cases hj : j < ys.length
 ·rw [List.getElem?_append_left hj] at hu;exact h.fwd j u hu
 ·have hl2 := (List.getElem?_eq_some_iff.1 hu).1;rw [List.length_append, List.length_singleton] at hl2;have e : j = i + 1 := (by have := h.go.len; omega);subst e;rw [List.getElem?_append_right (by rw [h.go.len]; exact nlr _), h.go.len, Nat.sub_self] at hu;cases hu
  exact (h.fwd i x h.go.lst).step hK hy hl
theorem RP1.below {S : Nat -> Prop} {fb L q i a c : Nat} {v : Value} {K : Rel} {F : FN} {w wr w' : World} {G : Option Addr} {ys : List Ix} {x : Ix} (h : RP1 S fb F L q v K a w i wr G c ys x) (hb : Below wr.heap.size wr w') : RP1 S fb F L q v K a w i w' G c ys x := ⟨h.go.below hb, h.fwd⟩
def FwC (K : Rel) (hi : Int) (a last j e : Nat) : Prop := (¬ (j = last /\ hi < 0) /\ chainB K j a e = true) \/ ((j = last /\ hi < 0) /\ ∃ t, last <= t /\ chainB K t a e = true)
structure RP2 (S : Nat -> Prop) (fb : Nat) (F : FN) (L : Nat) (K : Rel) (lo hi : Int) (a z last : Nat) (w : World) (k : Nat) (wr : World) (G : Option Addr) (c : Nat) (ys : List Ix) : Prop where
 gm : GoalM S fb F L w wr G c ys
 len : ys.length = last + 1
 fwd : ∀ (j : Nat) (y : Ix), j < k -> ys[j]? = some y -> ∀ e, e <= z -> (y.mem e = true ↔ FwC K hi a last j e)
 good : ∀ (j : Nat) (y : Ix), k <= j -> ys[j]? = some y -> RGood K lo hi a z j y.mem /\ (j = last -> hi < 0 -> ∀ r, last <= r -> RGood K lo hi a z r y.mem)
theorem RP1.back {S : Nat -> Prop} {fb L q last a z c : Nat} {v : Value} {K : Rel} {lo hi : Int} {F : FN} {w wr : World} {G : Option Addr} {ys : List Ix} {x : Ix} (h : RP1 S fb F L q v K a w last wr G c ys x) (hzL : z <= L) (hh : ¬ hi < 0) : RP2 S fb F L K lo hi a z last w (last + 1) wr G c ys :=
 ⟨h.go.gm, h.go.len, fun j y _ hy e he => ⟨fun h1 => .inl ⟨fun h2 => hh h2.2, (h.fwd j y hy).snd e h1⟩, fun h1 => by
  rcases h1 with ⟨_, h1⟩ | ⟨h1, _⟩
  ·exact (h.fwd j y hy).cpl e (by omega) h1
  ·exact absurd h1.2 hh⟩, fun j y hj hy => by
  have := (List.getElem?_eq_some_iff.1 hy).1;have := h.go.len
  omega⟩
theorem RP1.spread {S : Nat -> Prop} {fb L q last a z c : Nat} {v : Value} {K : Rel} {lo hi : Int} {F : FN} {w wr w' : World} {G : Option Addr} {ys : List Ix} {x y : Ix} (h : RP1 S fb F L q v K a w last wr G c ys x) (hg : GoalM S fb F L w w' G c (ys.set last y)) (hy : SprR L K x.mem y.mem) (hzL : z <= L) (hh : hi < 0) : RP2 S fb F L K lo hi a z last w (last + 1) w' G c (ys.set last y) := by
 have hil : last < ys.length := (by rw [h.go.len]; exact Nat.lt_succ_self _);refine ⟨hg, by rw [List.length_set, h.go.len], fun j u _ hu e he => ?_, fun j u hj hu => ?_⟩
 ·have hx := h.fwd last x h.go.lst;rcases get_set hu hil with ⟨e1, e2⟩ | ⟨e1, e2⟩
  ·subst e1 e2;constructor
   ·intro h1;obtain ⟨k, s, h2, h3⟩ := hy.snd e h1;exact .inr ⟨⟨rfl, hh⟩, j + s, Nat.le_add_right _ _, chain_add (hx.snd k h2) h3⟩
   ·rintro (⟨h1, _⟩ | ⟨_, t, h1, h2⟩)
    ·exact absurd ⟨rfl, hh⟩ h1
    ·rw [show t = j + (t - j) by omega] at h2;obtain ⟨k, k1, k2, k3, k4⟩ := chain_cut h2;exact hy.cpl k (t - j) e (hx.cpl k (by omega) k3) k4 (by omega)
  ·have hxj := h.fwd j u e2;constructor
   ·exact fun h1 => .inl ⟨fun h2 => e1 h2.1, hxj.snd e h1⟩
   ·rintro (⟨_, h1⟩ | ⟨h1, _⟩)
    ·exact hxj.cpl e (by omega) h1
    ·exact absurd h1.1 e1
 ·have := (List.getElem?_eq_some_iff.1 hu).1;rw [List.length_set] at this;have := h.go.len;omega
def glSel (xs : List Ix) (rd last : Nat) (hi : Int) (B : Nat -> Bool) : Nat -> Bool := if rd < last then (match xs[rd + 1]? with | some x => x.mem | none => noneB) else if hi < 0 then B else noneB
theorem RP2.sel {S : Nat -> Prop} {fb L a z last rd c : Nat} {K : Rel} {lo hi : Int} {F : FN} {w wr : World} {G : Option Addr} {ys : List Ix} (h : RP2 S fb F L K lo hi a z last w (rd + 1) wr G c ys) : GlSel ys rd (last + 1) z hi (glSel ys rd last hi) := by
 refine ⟨fun hl => ?_, fun hl hh B => ?_, fun hl hh B => ?_⟩
 ·have h1 : rd + 1 < ys.length := (by rw [h.len]; exact hl);obtain ⟨x, hx⟩ : ∃ x, ys[rd + 1]? = some x := ⟨ys[rd + 1]'h1, List.getElem?_eq_getElem _⟩;refine ⟨x, hx, fun B => ?_, (h.good (rd + 1) x (nlr _) hx).1.1⟩;unfold glSel;rw [if_pos (by omega), hx]
 ·unfold glSel;rw [if_neg (by omega), if_pos hh]
 ·unfold glSel;rw [if_neg (by omega), if_neg hh]
theorem RP2.step {S : Nat -> Prop} {fb L a z last rd c : Nat} {K : Rel} {lo hi : Int} {F : FN} {w wr w' : World} {G : Option Addr} {ys : List Ix} {s y : Ix} (h : RP2 S fb F L K lo hi a z last w (rd + 1) wr G c ys) (hg : GoalM S fb F L w w' G c (ys.set rd y)) (hs : ys[rd]? = some s) (hy : LeadR K lo z rd s.mem y.mem (glSel ys rd last hi y.mem)) (hl : LastF F.N K lo hi a z last) (hzN : z <= F.N) : RP2 S fb F L K lo hi a z last w rd w' G c (ys.set rd y) := by
 have hil := (List.getElem?_eq_some_iff.1 hs).1;have hf := h.fwd rd s (Nat.lt_succ_self _) hs;have hrl : rd <= last := (by have := h.len; omega)
 have hhi : hi < 0 \/ (last : Int) <= hi := by
  by_cases hh : hi < 0
  ·exact .inl hh
  ·have := hl.pos hh; omega
 have key : RGood K lo hi a z rd y.mem /\ (rd = last -> hi < 0 -> ∀ r, last <= r -> RGood K lo hi a z r y.mem) := by
  by_cases h1 : rd < last
  ·have h2 : rd + 1 < ys.length := (by rw [h.len]; omega);obtain ⟨x, hx⟩ : ∃ x, ys[rd + 1]? = some x := ⟨ys[rd + 1]'h2, List.getElem?_eq_getElem _⟩;have he : glSel ys rd last hi y.mem = x.mem := (by unfold glSel; rw [if_pos h1, hx]);rw [he] at hy;refine ⟨lead_step (by omega) (fun e he => ?_) hy (h.good (rd + 1) x (nlr _) hx).1, fun e => by omega⟩;rw [hf e he];constructor
   ·rintro (⟨_, h3⟩ | ⟨h3, _⟩)
    ·exact h3
    ·omega
   ·exact fun h3 => .inl ⟨fun h4 => by omega, h3⟩
  ·have e : rd = last := (by omega);subst e;by_cases hh : hi < 0
   ·have he : glSel ys rd rd hi y.mem = y.mem := (by unfold glSel; rw [if_neg (by omega), if_pos hh]);rw [he] at hy;obtain ⟨least, hl1, hl2⟩ := hl.neg hh
    have hall := lead_self hl1 hzN hl2 hh (fun e he => by
     rw [hf e he];constructor
     ·rintro (⟨h3, _⟩ | ⟨_, h3⟩)
      ·exact absurd ⟨rfl, hh⟩ h3
      ·exact h3
     ·exact fun h3 => .inr ⟨⟨rfl, hh⟩, h3⟩) hy
    exact ⟨hall rd (nlr _), fun _ _ => hall⟩
   ·have he : glSel ys rd rd hi y.mem = noneB := (by unfold glSel; rw [if_neg (by omega), if_neg hh]);rw [he] at hy;refine ⟨lead_last (hl.pos hh) hh (fun e he hc => (hf e he).2 (.inl ⟨fun h3 => hh h3.2, hc⟩)) hy, fun _ h3 => absurd h3 hh⟩
 refine ⟨hg, by rw [List.length_set, h.len], fun j u hj hu e he => ?_, fun j u hj hu => ?_⟩
 ·rcases get_set hu hil with ⟨e1, _⟩ | ⟨_, e2⟩
  ·omega
  ·exact h.fwd j u (by omega) e2 e he
 ·rcases get_set hu hil with ⟨e1, e2⟩ | ⟨e1, e2⟩
  ·rw [e1, e2]; exact key
  ·exact h.good j u (by omega) e2
def RepGE (S : Nat -> Prop) (fb : Nat) (F : FN) (L : Nat) (K : Rel) (lo hi : Int) (a z : Nat) (w : World) (e : Ending) (w' : World) : Prop := ∃ G c xs last, e = .returned (.slice G (last + 1) c) /\ RGood3 S fb F L w w' G c xs /\ xs.length = last + 1 /\ last <= z - a /\ (¬ hi < 0 -> (last : Int) = min hi ((z - a : Nat) : Int)) /\ ∀ (r : Nat) (x : Ix), (hi < 0 \/ r <= last) -> xs[min r last]? = some x -> RGood K lo hi a z r x.mem
theorem RP2.out {S : Nat -> Prop} {fb L a z last c : Nat} {K : Rel} {lo hi : Int} {F : FN} {w wr : World} {G : Option Addr} {ys : List Ix} (h : RP2 S fb F L K lo hi a z last w 0 wr G c ys) (hl : LastF F.N K lo hi a z last) : RepGE S fb F L K lo hi a z w (.returned (.slice G (last + 1) c)) wr := by
 refine ⟨G, c, ys, last, rfl, h.gm.out, h.len, ?_, hl.pos, fun r x hr hx => ?_⟩
 ·by_cases hh : hi < 0
  ·obtain ⟨_, _, e⟩ := hl.neg hh; omega
  ·have := hl.pos hh; omega
 ·have hg := h.good _ x (Nat.zero_le _) hx;rcases Nat.lt_or_ge last r with e | e
  ·rcases hr with hr | hr
   ·rw [show min r last = last by omega] at hg;exact hg.2 rfl hr r (by omega)
   ·omega
  ·rw [show min r last = r by omega] at hg;exact hg.1
def ND.full (d : ND) (fn : Value) : Array Value := #[.int .i64 d.x.kind, .int .u64 (d.x.set 0), .int .u64 (d.x.set 1), .int .u64 (d.x.set 2), .int .u64 (d.x.set 3), .int .i64 d.x.lo, .int .i64 d.x.hi, .int .i64 d.x.num, .slice d.x.A d.x.n d.x.c, .slice d.kA d.ks.length d.kc, .int .u8 d.e, .bool d.g, fn]
set_option maxRecDepth 100000 in
theorem least_full {S : Nat -> Prop} {w : World} {fb L : Nat} {F : FN} (h : FindAt S w fb F L) {d d' : ND} {q : Nat} (fid : FuncId) (bs : Array Value) (hk : OffAt S w d.kA (intsV d.ks)) (hq : d.ks[0]? = some q) (hd : F.nds[q]? = some d') : Calls Tryz.prog 97 #[ptrV fb, .agg (d.full (funV fid bs))] w (IntC (leastOf d.x.lo d'.e) w) := by
 have hf3 := h.f3;obtain ⟨gn, on, hA, hgn, _, hcn⟩ := h.cell hd;have hc10 := hcn 10 (.int .u8 (d'.e : Int)) rfl;obtain ⟨gk, ok, hkA, hgk, hck⟩ := hk.cell (intsV_at hq);rw [Nat.add_zero] at hck;have hqlt := (List.getElem?_eq_some_iff.1 hd).1;have h0 : 0 < d.ks.length := (List.getElem?_eq_some_iff.1 hq).1;have hfb := lts h.obj;have hE : d'.e < 16 := (by rw [(h.dat q d' hd).emp]; exact empT_lt _);have hb := bit0 ⟨d'.e, hE⟩;simp only at hb;unfold ND.full IntC;rw [hA] at hf3;obtain ⟨t, x, kA, kc, ks, e, g, fn⟩ := d;simp only at hkA hck hq h0 ⊢;subst hkA;obtain ⟨n, hn⟩ : ∃ n, n = F.nds.length := ⟨_, rfl⟩;obtain ⟨nk, hnk⟩ : ∃ n, n = ks.length := ⟨_, rfl⟩;rw [<- hn] at hf3 hqlt;rw [<- hnk] at h0 ⊢;have h0I : (0 : Int) < (nk : Int) := (by omega);have hq0 : (0 : Int) <= (q : Int) := (by omega);have hqI : (q : Int) < (n : Int) := (by omega);obtain ⟨lo, hlo⟩ : ∃ lo, lo = x.lo := ⟨_, rfl⟩;rw [<- hlo];by_cases hbt : d'.e.testBit 0 = true
 ·have hl : leastOf lo d'.e = 0 := (by unfold leastOf; rw [if_pos hbt]);rw [if_pos hbt] at hb;rw [hl];clear hn hnk h hk hq hd hcn hA hE hbt hl hlo;go_enter Tryz.func97, Tryz.ntmps97;go_wp2_with fail;go_quiet (fail);go_wp2_with fail;go_ret;exact ⟨rfl, (bW w _).trans (bD _ _ |>.mono (by rw [World.size_alloc]; omega))⟩
 ·obtain ⟨m, hm⟩ : ∃ m, m = lo.toNat := ⟨_, rfl⟩;have hl : leastOf lo d'.e = m := (by unfold leastOf; rw [if_neg hbt, hm]);have hmx : max lo 0 = (m : Int) := (by rw [hm]; omega);rw [if_neg hbt] at hb;rw [hl];clear hn hnk h hk hq hd hcn hA hE hbt hl hm hlo;go_enter Tryz.func97, Tryz.ntmps97;go_wp2_with fail;go_quiet (fail);go_wp2_with fail;go_ret;exact ⟨rfl, (bW w _).trans (bD _ _ |>.mono (by rw [World.size_alloc]; omega))⟩
open Go.RowKit Go.Deep Go.Sort
set_option maxRecDepth 100000 in
set_option maxHeartbeats 2000000 in
theorem repeatGoals_is {S : Nat -> Prop} {w : World} {fb L k a z q : Nat} {F : FN} {d d' : ND} {v : Value} (h : FindAt S w fb F L) (hd : F.nds[k]? = some d) (hv : NdP F k v) (hq : d.ks[0]? = some q) (hd' : F.nds[q]? = some d') (haz : a <= z) (hzL : z <= L) :
  Calls Tryz.prog 106 #[ptrV fb, v, .int .i64 (a : Int), .int .i64 (z : Int)] w (RepGE S fb F L (F.rel d'.t) d.x.lo d.x.hi a z w) := by
 have HLD := lh fun (S' : Nat -> Prop) (V : World) (rd n c : Nat) (G : Option Addr) (xs : List Ix) (s : Ix) (gl : (Nat -> Bool) -> Nat -> Bool) (hV : FindAt S' V fb F L) => leading_is (w := V) (z := z) (rd := rd) (n := n) (c := c) (G := G) (xs := xs) (s := s) (gl := gl) hV hd hv hq hd';have HNP := lh hv;obtain ⟨gn, on, hA, hve, hcell⟩ := ndp_cells h hd hv;subst hve;have hn := h.dat k d hd;obtain ⟨fid, bs, hfn⟩ := flow_form (h.mem k d hd).flow;obtain ⟨gk, ok, hkA, _, _⟩ := (h.mem k d hd).kids.cell (intsV_at hq);have hnk0 : 0 < d.ks.length := (List.getElem?_eq_some_iff.1 hq).1;have hzN : z <= F.N := Nat.le_trans hzL h.lim;have hsm := h.small
 have HC := lh fun (V : World) (hV : FindAt S V fb F L) => (show gn < V.heap.size /\ V.cell? ⟨gk, ok, none⟩ = some (.int .i64 (q : Int)) /\ ∀ (j : Nat) (u : Value), d.cells[j]? = some u -> V.cell? ⟨gn, on + k * 13 + j, none⟩ = some u from by
  obtain ⟨g', o', e, _, hc⟩ := (hV.mem k d hd).kids.cell (intsV_at hq);rw [hkA] at e;cases e
  rw [Nat.add_zero] at hc
  exact ⟨(hcell V hV).1, hc, (hcell V hV).2⟩)
 have HST := lh (step_made q S S w L d' h hd' h.old);have HLS := lh fun (V : World) (hb : Below w.heap.size w V) => least_full (d := d) (h.below hb) fid bs ((h.mem k d hd).kids.stays hb) hq hd';have HAF := lh fun (T : Nat -> Prop) (V : World) (x : Ix) (vf : Value) (ha : Ask T fb F L a V x) (hvf : StepV T V fb F.nds q vf) => after_is ha hvf hd' (fun k _ _ _ _ => from_all k);have HSP := lh fun (o : Nat) (cs0 : Array Value) (T0 : TypeId) (V : World) (B p : Nat) (x : Ix) (vf : Value) (hs : J.Stp o cs0 T0 S fb F L V B p x) (hvf : StepV (fun k => S k \/ Tch p x k) V fb F.nds q vf) => J.spread_is hs hvf hd' (fun k _ _ _ _ => from_all k);have HO := lh fun (V : World) => only_own a F.N (by omega) (by omega) V;have HP := lh (aI haz (aI hzL (aI hzN hsm)));have HFN := lh hfn;have hLR := least_ok (h.emp hd') (lo := d.x.lo);have HFIT := lh (F.fit d'.t);obtain ⟨K, hK⟩ : ∃ K, K = F.rel d'.t := ⟨_, rfl⟩;rw [<- hK] at HLD HAF HSP hLR HFIT ⊢;obtain ⟨hi, hhi⟩ : ∃ hi, hi = d.x.hi := ⟨_, rfl⟩;obtain ⟨lo, hlo⟩ : ∃ lo, lo = d.x.lo := ⟨_, rfl⟩;rw [<- hhi] at HLD ⊢;rw [<- hlo] at HLD HLS hLR ⊢;have HHI := lh (aI hhi hlo);obtain ⟨least, hls⟩ : ∃ l, l = leastOf lo d'.e := ⟨_, rfl⟩;rw [<- hls] at HLS hLR;obtain ⟨dz, hdz⟩ : ∃ dz, dz = z - a := ⟨_, rfl⟩
 obtain ⟨last, hlast⟩ : ∃ last : Nat, (last : Int) = if hi < 0 then min (least : Int) (dz : Int) else min hi (dz : Int) := by
  by_cases hh : hi < 0
  ·exact ⟨min least dz, by rw [if_pos hh]; omega⟩
  ·exact ⟨(min hi (dz : Int)).toNat, by rw [if_neg hh]; omega⟩
 have HLF := lh (show LastF F.N K lo hi a z last from ⟨fun hh => ⟨least, hLR, by rw [if_pos hh] at hlast; omega⟩, fun hh => by rw [if_neg hh] at hlast; rw [<- hdz]; exact hlast⟩);have HLA := lh (aI hlast (show last <= 100000 by split at hlast <;> omega));have hwz : IntKind.i64.wrap ((z : Int) - (a : Int)) = (dz : Int) := (by rw [hdz, IntWalk.i64_in _ (by omega)]; omega);have HWZ := lh hwz;have HH := lh h;obtain ⟨nk, hnk⟩ : ∃ n, n = d.ks.length := ⟨_, rfl⟩;have HNK := lh hnk;rw [<- hnk] at hnk0;have hnkI : (0 : Int) < (nk : Int) := (by omega);obtain ⟨hgl, ck, hcw⟩ := HC.out w h;have c9 : w.cell? ⟨gn, on + k * 13 + 9, none⟩ = some (.slice (some ⟨gk, ok, none⟩) nk d.kc) := (by rw [hnk, <- hkA]; exact hcw 9 _ rfl);have HKA := lh hkA;clear h hd hv hq hd' haz hzL hn hfn hkA hzN hsm hA hcell hK hls hdz hlast hLR hwz hnk hcw hhi hlo;go_enter Tryz.func106, Tryz.ntmps106;go_wp2_with fail;go_at_call 100;with_reducible refine HST.out.mono ?_
 rintro e w1 ⟨v0, rfl, hb1, hst⟩;obtain ⟨fs, bs2, hvf, _⟩ := stepv_form hst;subst hvf;have hf1 := HH.out.below hb1;obtain ⟨hgl1, ck1, hcw⟩ := HC.out w1 hf1;have c0 := hcw 0 _ rfl;have c1 := hcw 1 _ rfl;have c2 := hcw 2 _ rfl;have c3 := hcw 3 _ rfl;have c4 := hcw 4 _ rfl;have c5 := hcw 5 _ rfl;have c6 := hcw 6 _ rfl;have c7 := hcw 7 _ rfl;have c8 := hcw 8 _ rfl;have c9' := hcw 9 _ rfl;have c10 := hcw 10 _ rfl;have c11 := hcw 11 _ rfl;have c12 := hcw 12 _ rfl;rw [Nat.add_zero] at c0;rw [HFN.out] at c12;have HS1 := lh (aI hb1 hst);clear hcw hb1 hst hf1 c9 ck hgl;rw [<- HHI.out.1] at c6;obtain ⟨hib, hhb⟩ : ∃ b, b = decide (hi < 0) := ⟨_, rfl⟩;have hhb' := hhb.symm;have HHB := lh hhb;clear hhb
 go_upto_if 32 with fail
 obtain ⟨m0, hm0⟩ : ∃ m0 : Int, m0 = if hi < 0 then (least : Int) else hi := ⟨_, rfl⟩;have HM0 := lh hm0;clear hm0;go_cut [10] from 33 to 37 (fun t10 wx => t10 = .int .i64 m0 /\ Hid (Below w1.heap.size w1 wx))
 case first =>
  by_cases hh : hi < 0
  ·have hb : hib = true := (by rw [HHB.out]; exact dqt hh);subst hb;have hcall := HLS.out w1 HS1.out.1;unfold ND.full at hcall;rw [<- HHI.out.1] at hcall;have HCL := lh hcall;clear hcall;go_wp2_with fail;go_at_call 97;with_reducible refine HCL.out.mono ?_
   rintro e w2 ⟨rfl, hb2⟩;have HB2 := lh hb2;clear hb2 c0 c1 c2 c3 c4 c5 c6 c7 c8 c9' c10 c11 c12;go_wp2_with fail;go_meet
   case rel => exact ⟨by rw [HM0.out, if_pos hh], HB2⟩
  ·have hb : hib = false := (by rw [HHB.out]; exact dqf hh);subst hb;clear c0 c1 c2 c3 c4 c5 c7 c8 c9' c10 c11 c12;go_wp2_with fail;go_meet
   case rel => exact ⟨by rw [HM0.out, if_neg (Int.not_lt.2 hh)], lh (Below.refl _ _)⟩
 obtain ⟨rfl, HB⟩ := hcut;have hwz := HWZ.out
 have hmn : min m0 (dz : Int) = (last : Int) := by
  rw [HLA.out.1, HM0.out];split <;> rfl
 clear c0 c1 c2 c3 c4 c5 c6 c7 c8 c9' c10 c11 c12 hhb';have HOC := lh (HO.out wc);go_wp2_with fail;go_at_call 30;with_reducible refine HOC.out.mono ?_
 rintro e w2 ⟨x0, he, hm0, hb2, hown0⟩;obtain ⟨n0, hn0⟩ : ∃ n, n = x0.ws.length := ⟨_, rfl⟩;have hv0 : x0.v = .agg #[.int .i64 (x0.f : Int), .slice x0.A n0 x0.c] := (by unfold Ix.v; rw [hn0]);rw [hv0] at he;subst he;have hbwc : Below w.heap.size w wc := HS1.out.1.trans (HB.out.mono HS1.out.1.size);have hx0 : x0.mem = onlyB a := funext fun q => by rw [hm0.is q]; rfl
 have hGO := GO.start HH.out hbwc (HS1.out.2.turned (T := fun _ => False) (Turned.of_below HB.out) fun k h => h.elim) hb2 hown0 (hm0.at'.weaken fun j hj => by have := HH.out.old j hj; have := hbwc.size; omega);rw [<- hn0] at hGO
 have HR0 := lh (show RP1 S fb F L q (funV fs bs2) K a w 0 (w2.alloc (.cells #[.int .i64 (x0.f : Int), .slice x0.A n0 x0.c] 68)) (some ⟨w2.heap.size, 0, none⟩) 1 [x0] x0 from
  ⟨hGO, fun j y hj => by
   match j, hj with
   | 0, hj =>
    simp at hj;subst hj;refine ⟨fun e he => ?_, fun e _ he => ?_, hm0.low, fun e he => ?_⟩
    ·rw [hx0, onlyB_iff] at he;exact chain_zero.2 he.symm
    ·rw [hx0, onlyB_iff];exact (chain_zero.1 he).symm
    ·rw [hx0, onlyB_iff] at he;rw [he]; have := HP.out.1; have := HP.out.2.2.1; omega
   | j + 1, hj => simp at hj⟩)
 clear hm0 hb2 hown0 hn0 hv0 hbwc hx0 hGO;go_upto_region 7 with fail;obtain ⟨W1, hW1⟩ : ∃ W, W = w2.alloc (.cells #[.int .i64 (x0.f : Int), .slice x0.A n0 x0.c] 68) := ⟨_, rfl⟩;rw [<- hW1] at HR0 ⊢;clear hW1;go_upto_region 8 with fail;go_loopw [11, 12, 47] (fun gv _ iv wr => ∃ (i : Nat) (G : Option Addr) (c : Nat) (xs : List Ix) (x : Ix), iv = .int .i64 (i : Int) /\ gv = .slice G (i + 1) c /\ i <= last /\ Hid (RP1 S fb F L q (funV fs bs2) K a w i wr G c xs x)) (fun _ _ iv _ => last - (intOf iv).toNat)
 case atStart => exact ⟨0, _, _, _, _, rfl, rfl, Nat.zero_le _, HR0⟩
 case round =>
  obtain ⟨i, G, c, xs, x, rfl, rfl, hin, HY⟩ := hrel;by_cases hlt : i < last
  ·obtain ⟨g, hGg, hgb, hgl', m0, m1, _, _⟩ := HY.out.go.gm.cell HY.out.go.lst;subst hGg;obtain ⟨ni, hni⟩ : ∃ n, n = x.ws.length := ⟨_, rfl⟩;have hvi : x.v = .agg #[.int .i64 (x.f : Int), .slice x.A ni x.c] := (by unfold Ix.v; rw [hni]);have hfx := HY.out.fwd i x HY.out.go.lst;have haf := HAF.out (fun j => S j \/ rblk (some ⟨g, 0, none⟩) xs.length c j) wr x (funV fs bs2) ⟨HY.out.go.gm.fin, HY.out.go.gm.sets x (List.mem_of_getElem? HY.out.go.lst), hfx.inN, hfx.low⟩ (HY.out.go.stv.fresh fun j hj => .inl (.inl hj));rw [hvi] at haf;have HAA := lh haf;rw [<- hni] at m1;have hiI : (i : Int) < (last : Int) := (by omega);have hi0 : (0 : Int) <= (i : Int) := (by omega);have hi1 : (i : Int) < ((i + 1 : Nat) : Int) := (by omega);have hi2 : i < i + 1 := (by omega);have hib' : i < 1099511627776 := (by have := HLA.out.2; omega);have HLT := lh hlt;clear hin hlt hgb hni hvi hfx haf;go_wp2_with fail;go_at_call 71;with_reducible refine HAA.out.mono ?_
   rintro e w5 ⟨y, he, ha⟩;obtain ⟨ny, hny⟩ : ∃ n, n = y.ws.length := ⟨_, rfl⟩;have hvy : y.v = .agg #[.int .i64 (y.f : Int), .slice y.A ny y.c] := (by unfold Ix.v; rw [hny]);rw [hvy] at he;subst he;obtain ⟨G', c', w6, hap, hgo⟩ := HY.out.go.push ha (by have := HLA.out.2; have := HLT.out; omega);rw [<- hny, HY.out.go.len] at hap;have HA := lh hap;have HG := lh (HY.out.step hgo HFIT.out ha.is ha.low);clear ha hny hvy hap hgo m0 m1
   go_wp2_with (refine wpList_append_to 58 HA.out rfl rfl ?_)
   go_roundw
   case rel => exact ⟨i + 1, G', c', _, y, by go_num, rfl, by have := HLT.out; omega, HG⟩
   case measure =>
    have := HLT.out;show last - (((i : Int) + 1).toNat) < last - (i : Int).toNat;omega
  ·have hi : i = last := (by omega);subst hi;have hiI : ¬ (i : Int) < (i : Int) := Int.lt_irrefl _;obtain ⟨g, hGg, hgb, hgl', m0, m1, _, _⟩ := HY.out.go.gm.cell HY.out.go.lst;subst hGg;obtain ⟨_, _, hcw⟩ := HC.out wr (HY.out.go.gm.fin.weaken HH.out.sm HH.out.sf fun j hj => .inl hj);have c6 := hcw 6 _ rfl;rw [<- HHI.out.1] at c6;have hgnl : gn < wr.heap.size := World.block_lt_of_cell? wr _ c6;have hi0 : (0 : Int) <= (i : Int) := (by omega);have hi1 : (i : Int) < ((i + 1 : Nat) : Int) := (by omega);have hi2 : i < i + 1 := (by omega);have hi3 : (i : Int) < (i : Int) + 1 := (by omega);have hhb' := HHB.out.symm;clear hcw hlt hin m0 m1 hgb
   go_upto_if 65 with fail
   go_cut [] from 66 to 70 (fun wx => ∃ ys2, Hid (RP2 S fb F L K lo hi a z i w (i + 1) wx (some ⟨g, 0, none⟩) c ys2))
   case first =>
    by_cases hh : hi < 0
    ·have hb : hib = true := (by rw [HHB.out]; exact dqt hh);subst hb;obtain ⟨cs0, ho, hstp, hstv⟩ := HY.out.go.stp;have hsp := HSP.out (i * 2) cs0 _ wr w.heap.size g x (funV fs bs2) hstp hstv (HY.out.fwd i x HY.out.go.lst).inN;have HSPP := lh hsp;have HOB := lh ho;have HHH := lh hh;clear hstp hstv hsp ho hh;go_wp2_with fail;go_at_call 102;with_reducible refine HSPP.out.mono ?_
     rintro e w7 ⟨rfl, y, hs⟩;have HR2 := lh (HY.out.spread (lo := lo) (HY.out.go.spread HOB.out hs) hs.is HP.out.2.1 HHH.out);clear hs;go_wp2_with fail;go_meet
     case rel => exact ⟨_, HR2⟩
    ·have hb : hib = false := (by rw [HHB.out]; exact dqf hh);subst hb;have HR2 := lh (HY.out.back (lo := lo) (hi := hi) HP.out.2.1 hh);clear hh;go_wp2_with fail;go_meet
     case rel => exact ⟨_, HR2⟩
   obtain ⟨ys2, HR2⟩ := hcut;clear c6 hgnl hhb';go_upto_region 15 with fail;go_loopw [13] (fun rv wr => ∃ (rq : Int) (k2 : Nat) (ys : List Ix), rv = .int .i64 rq /\ Hid (rq = (k2 : Int) - 1 /\ k2 <= i + 1) /\ Hid (RP2 S fb F L K lo hi a z i w k2 wr (some ⟨g, 0, none⟩) c ys)) (fun rv _ => (intOf rv + 1).toNat)
   case atStart => exact ⟨i, i + 1, ys2, rfl, lh ⟨by omega, nlr _⟩, HR2⟩
   case round =>
    obtain ⟨rq, k2, ys, rfl, HQK, HY2⟩ := hrel;by_cases hq : 0 <= rq
    ·obtain ⟨rd, hrd⟩ : ∃ rd : Nat, rq = (rd : Int) := ⟨rq.toNat, by omega⟩;subst hrd;have hk2 : k2 = rd + 1 := (by have := HQK.out.1; omega);subst hk2;have hri : rd <= i := (by have := HQK.out.2; omega);have hrl : rd < ys.length := (by rw [HY2.out.len]; omega);obtain ⟨s, hs⟩ : ∃ s, ys[rd]? = some s := ⟨ys[rd]'hrl, List.getElem?_eq_getElem _⟩;have hgm := HY2.out.gm;have hout := hgm.out;have hld := HLD.out (fun j => S j \/ rblk (some ⟨g, 0, none⟩) ys.length c j) wr rd (i + 1) c (some ⟨g, 0, none⟩) ys s (glSel ys rd i hi) hgm.fin (hout.row.weaken fun j hj => by rw [hj]; exact HH.out.sm) (fun x hx => (hout.sets x hx).weaken fun j hj => by rw [hj]; exact HH.out.sm) HY2.out.len (by omega) (by have := HLA.out.2; omega) HP.out.2.1 hs HY2.out.sel;have HLC := lh hld;have HS := lh (aI hs (aI hri hrl));have hr0 : (0 : Int) <= (rd : Int) := (by omega);have hr1 : (rd : Int) < ((i + 1 : Nat) : Int) := (by omega);have hr2 : rd < i + 1 := (by omega);have hr3 : (rd : Int) < (i : Int) + 1 := (by omega);have hib' : rd < 1099511627776 := (by have := HLA.out.2; omega);obtain ⟨q', hq'⟩ : ∃ q', q' = (rd : Int) - 1 := ⟨_, rfl⟩;have HQ' := lh hq';have HWQ := lh (show IntKind.i64.wrap ((rd : Int) - 1) = q' by rw [hq']; exact IntWalk.i64_in _ (by omega));clear hq hri hrl hs hgm hout hld hq';go_wp2_with fail;go_at_call 119;with_reducible refine HLC.out.mono ?_
     rintro e w8 ⟨y, he, hyx, hyl, hyf, hyt⟩;obtain ⟨ny, hny⟩ : ∃ n, n = y.ws.length := ⟨_, rfl⟩;have hvy : y.v = .agg #[.int .i64 (y.f : Int), .slice y.A ny y.c] := (by unfold Ix.v; rw [hny]);rw [hvy] at he;subst he;have hgm8 := HY2.out.gm.got hyf hyt;obtain ⟨g', hGg', _, hgl8, m0, m1, f0, f1⟩ := hgm8.cell HS.out.1;cases hGg'
     have hput := hgm8.put hyx HS.out.2.2;have hst := HY2.out.step hput HS.out.1 hyl HLF.out HP.out.2.2.1;rw [<- hny] at hst;have HGO := lh hst;have hwq := HWQ.out;clear hny hvy hyx hyl hyf hyt hgm8 hput hst;go_wp2_with fail;go_roundw
     case rel => exact ⟨q', rd, _, rfl, lh ⟨HQ'.out, by have := HS.out.2.1; omega⟩, HGO⟩
     case measure =>
      clear hwq;have := HQ'.out;show (q' + 1).toNat < ((rd : Int) + 1).toNat;omega
    ·have hk2 : k2 = 0 := (by have := HQK.out.1; omega);subst hk2;have hqb : decide (0 <= rq) = false := dqf hq;have HPP := lh (HY2.out.out HLF.out);clear hq;go_wp2_with fail;go_ret;exact HPP.out
end Go.Proofs.YtflkfleihlceeaaGreatDoor

import Derived.Test.YtflkfleihlceeaaGreatDoorD26
import Derived.Great.BuildSlice
import Derived.Laws.ResultCell
/-
 All nodes' groups; the match of a tree. Condition: the tree matches there.
-/
namespace Go.Proofs.YtflkfleihlceeaaGreatDoor
open Go.RowKit Go.Deep Go.Sort
theorem groups_all {fb : Nat} {F : FN} (k : Nat) : GrpC fb F k := by
 induction k using Nat.strongRecOn with
 | _ k ih => exact groups_step ih (row_groups ih) (rep_groups ih)
theorem FindAt.limit {S : Nat -> Prop} {w : World} {fb L z : Nat} {F : FN} (h : FindAt S w fb F L) (hz : z <= L) : FindAt S (w.setCell ⟨fb, 2, none⟩ (.int .i64 (z : Int))) fb F z /\ Turned (· = fb) w (w.setCell ⟨fb, 2, none⟩ (.int .i64 (z : Int))) := by
 have ht : Turned (· = fb) w (w.setCell ⟨fb, 2, none⟩ (.int .i64 (z : Int))) := (Turned.refl (· = fb) w).put' rfl 2 _;have hS : ∀ k, k = fb -> S k := fun k hk => by rw [hk]; exact h.sf
 have htS := turned_mono ht hS;refine ⟨⟨fun k hk => Nat.lt_of_lt_of_le (h.old k hk) ht.size, h.sm, h.sf, h.ne, ?_, h.row.turned htS, h.cap, h.dat, fun k d hd => (h.mem k d hd).turned ht hS, ?_, h.deb.turned htS h.gdeb, h.gdeb, h.small, h.few, Nat.le_trans hz h.lim⟩, ht⟩
 ·rw [set_obj h.obj 2 (.int .i64 (z : Int))];rfl
 ·refine h.kept.same (ht.block F.mb h.kept.lt fun e => h.ne e.symm) fun k i X hq => ⟨hq.at'.turned htS, hq.low, ?_⟩;obtain ⟨d, hd, he⟩ := hq.is;exact ⟨d, hd, he.less hz⟩
def spI (i : Nat) : Sp := fun k => if k < i then (-1, -1) else (0, 0)
theorem spI_put (i : Nat) : putS (spI i) i (-1) (-1) = spI (i + 1) := by
 funext k
 unfold putS spI;by_cases h1 : k = i
 ·rw [if_pos h1, if_pos (by omega)]
 ·rw [if_neg h1];by_cases h2 : k < i
  ·rw [if_pos h2, if_pos (by omega)]
  ·rw [if_neg h2, if_neg (by omega)]
theorem spC_one (sp : Sp) : (spC sp).all (·.oneCell') = true := by simp [spC, Value.oneCell']
def spM (ev : EvF) (a z : Nat) : Sp := putE (putS (spI 10) 0 a z) (ev a z)
structure FndW (w : World) (b8 b9 : Nat) (sp : Sp) (wr : World) : Prop where
 bel : Below w.heap.size w wr
 o8 : wr.heap[b8]? = some (.cells (spC (spI 0)) 34 (0, 0))
 o9 : wr.heap[b9]? = some (.cells (spC sp) 34 (0, 0))
theorem FndW.put {w wr : World} {b8 b9 n : Nat} {sp : Sp} (h : FndW w b8 b9 sp wr) (hb : w.heap.size <= b9) (hne : b8 ≠ b9) (hn : n < 10) (i j : Int) : FndW w b8 b9 (putS sp n i j) ((wr.setCell ⟨b9, n * 2, none⟩ (.int .i64 i)).setCell ⟨b9, n * 2 + 1, none⟩ (.int .i64 j)) := by
 have ht : Turned (· = b9) wr ((wr.setCell ⟨b9, n * 2, none⟩ (.int .i64 i)).setCell ⟨b9, n * 2 + 1, none⟩ (.int .i64 j)) := ((Turned.refl (· = b9) wr).put' rfl (n * 2) _).put' rfl (n * 2 + 1) _;refine ⟨(h.bel.setCell hb _).setCell hb _, ht.obj h.o8 hne, ?_⟩;rw [set_obj (set_obj h.o9 (n * 2) (.int .i64 i)) (n * 2 + 1) (.int .i64 j), spC_set sp n i j hn]
def FoundE (S : Nat -> Prop) (fb : Nat) (F : FN) (z : Nat) (sp : Sp) (w : World) (e : Ending) (w' : World) : Prop := e = .returned (.agg (spC sp)) /\ FindAt S w' fb F z /\ Turned (fun k => k = F.mb \/ k = fb) w w'
set_option maxRecDepth 100000 in
set_option maxHeartbeats 2000000 in
theorem found_is {S : Nat -> Prop} {w : World} {fb L k a z : Nat} {F : FN} {d : ND} (h : FindAt S w fb F L) (hd : F.nds[k]? = some d) (haz : a <= z) (hzL : z <= L) (hrel : F.rel d.t a z = true) :
  Calls Tryz.prog 31 #[ptrV fb, .int .i64 (k : Int), .int .i64 (a : Int), .int .i64 (z : Int)] w (FoundE S fb F z (spM (evT F.T F.b d.t) a z) w) := by
 have hfb := lts h.obj;have HH := lh h;have HD := lh (aI hd (aI haz (aI hzL hrel)));clear h hd haz hzL hrel;go_enter Tryz.func31, Tryz.ntmps31;go_upto_region 3 with fail;obtain ⟨W, hW⟩ : ∃ W, W = (w.alloc (.cells (spC (spI 0)) 34)).alloc (.cells (spC (spI 0)) 34) := ⟨_, rfl⟩;have hob := obj2 hW;have h8 : W.heap[w.heap.size]? = some (.cells (spC (spI 0)) 34 (0, 0)) := (by rw [hW]; exact old_obj' (heap_alloc_new w _) _)
 have h9 : W.heap[w.heap.size + 1]? = some (.cells (spC (spI 0)) 34 (0, 0)) := by
  rw [hW];have := heap_alloc_new (w.alloc (.cells (spC (spI 0)) 34)) (.cells (spC (spI 0)) 34);rw [World.size_alloc] at this;exact this
 obtain ⟨b8, hb8⟩ : ∃ b, b = w.heap.size := ⟨_, rfl⟩;obtain ⟨b9, hb9⟩ : ∃ b, b = w.heap.size + 1 := ⟨_, rfl⟩;have hW2 : W = (w.alloc (.cells #[.int .i64 0, .int .i64 0, .int .i64 0, .int .i64 0, .int .i64 0, .int .i64 0, .int .i64 0, .int .i64 0, .int .i64 0, .int .i64 0, .int .i64 0, .int .i64 0, .int .i64 0, .int .i64 0, .int .i64 0, .int .i64 0, .int .i64 0, .int .i64 0, .int .i64 0, .int .i64 0] 34)).alloc (.cells #[.int .i64 0, .int .i64 0, .int .i64 0, .int .i64 0, .int .i64 0, .int .i64 0, .int .i64 0, .int .i64 0, .int .i64 0, .int .i64 0, .int .i64 0, .int .i64 0, .int .i64 0, .int .i64 0, .int .i64 0, .int .i64 0, .int .i64 0, .int .i64 0, .int .i64 0, .int .i64 0] 34) := hW;rw [<- hW2, <- hb9, <- hb8];rw [<- hb9] at h9;rw [<- hb8] at h8;have HB := lh (aI hb8 (aI hb9 hob));have HW0 := lh (show FndW w b8 b9 (spI 0) W from ⟨hob.1, h8, h9⟩);clear hW hW2 hob h8 h9 hb8 hb9 hfb;go_loopw [10, 11] (fun _ iv wr => ∃ i : Nat, iv = .int .i64 (i : Int) /\ i <= 10 /\ Hid (FndW w b8 b9 (spI i) wr)) (fun _ iv _ => 10 - (intOf iv).toNat)
 case atStart => exact ⟨0, rfl, by omega, HW0⟩
 case round =>
  obtain ⟨i, rfl, hi, HY⟩ := hrel;by_cases hlt : i < 10
  ·have c0 := spC_cell (spI i) i hlt;have k0 : wr.cell? ⟨b9, i * 2, none⟩ = some (.int .i64 (spI i i).1) := (by rw [obc HY.out.o9]; exact c0.1);have k1 : wr.cell? ⟨b9, i * 2 + 1, none⟩ = some (.int .i64 (spI i i).2) := (by rw [obc HY.out.o9]; exact c0.2);have f0 : wr.frozen? ⟨b9, i * 2, none⟩ = false := (by simp [World.frozen?, HY.out.o9]);have f1 : wr.frozen? ⟨b9, i * 2 + 1, none⟩ = false := (by simp [World.frozen?, HY.out.o9]);have hbl := lts HY.out.o9;have hiI : (i : Int) < 10 := (by omega);have hi0 : (0 : Int) <= (i : Int) := (by omega);have hgo := HY.out.put (by have := HB.out.2.1; omega) (by have := HB.out.1; have := HB.out.2.1; omega) hlt (-1) (-1);rw [spI_put] at hgo;have HG := lh hgo;have HI := lh hlt;clear hgo c0 hi;go_wp2_with fail;go_roundw
   case rel => exact ⟨i + 1, by go_num, by have := HI.out; omega, HG⟩
   case measure =>
    have := HI.out;show 10 - (((i : Int) + 1).toNat) < 10 - (i : Int).toNat;omega
  ·have hi10 : i = 10 := (by omega);subst hi10;have hiI : ¬ (((10 : Nat) : Int)) < 10 := (by decide);have hput := HY.out.put (by have := HB.out.2.1; omega) (by have := HB.out.1; have := HB.out.2.1; omega) (by decide : 0 < 10) (a : Int) (z : Int);simp only [Nat.zero_mul, Nat.zero_add] at hput;have f0 : wr.frozen? ⟨b9, 0, none⟩ = false := (by simp [World.frozen?, HY.out.o9]);have f1 : wr.frozen? ⟨b9, 1, none⟩ = false := (by simp [World.frozen?, HY.out.o9]);have k0 : wr.cell? ⟨b9, 0, none⟩ = some (.int .i64 (-1)) := (by rw [obc HY.out.o9]; rfl);have k1 : wr.cell? ⟨b9, 1, none⟩ = some (.int .i64 (-1)) := (by rw [obc HY.out.o9]; rfl);have hbl := lts HY.out.o9;obtain ⟨w2, hw2⟩ : ∃ w2, w2 = (wr.setCell ⟨b9, 0, none⟩ (.int .i64 (a : Int))).setCell ⟨b9, 1, none⟩ (.int .i64 (z : Int)) := ⟨_, rfl⟩;rw [<- hw2] at hput;have HP := lh hput;clear hlt hi hput;go_upto_region 8 with fail;rw [<- hw2];clear hw2 f0 f1 k0 k1 hbl
   have hfS : FindAt (fun k => S k \/ k = b8 \/ k = b9) w2 fb F L := HH.out.priv HP.out.bel (fun k hk => .inl hk) (fun k hk => hk.imp_right fun e => by have := HB.out.1; have := HB.out.2.1; omega) fun k hk => by
    rcases hk with hk | rfl | rfl
    ·have := HH.out.old k hk; have := HP.out.bel.size; omega
    ·exact lts HP.out.o8
    ·exact lts HP.out.o9
   obtain ⟨hlim, htl⟩ := hfS.limit HD.out.2.2.1
   have hfl : b8 ≠ fb /\ b9 ≠ fb /\ b8 ≠ F.mb /\ b9 ≠ F.mb /\ b8 ≠ b9 := by
    have h1 := HH.out.old _ HH.out.sf;have h2 := HH.out.old _ HH.out.sm;have := HB.out.1;have := HB.out.2.1;omega
   have hob := hfS.obj;have e2 : w2.cell? ⟨fb, 2, none⟩ = some (.int .i64 (L : Int)) := (by rw [obc hob]; rfl);have ef : w2.frozen? ⟨fb, 2, none⟩ = false := (by simp [World.frozen?, hob]);have hfl2 := lts hob;obtain ⟨w3, hw3⟩ : ∃ w3, w3 = w2.setCell ⟨fb, 2, none⟩ (.int .i64 (z : Int)) := ⟨_, rfl⟩;rw [<- hw3] at hlim htl;have hgp : GrpP (fun k => S k \/ k = b8 \/ k = b9) fb F z b9 w3 (putS (spI 10) 0 a z) := ⟨hlim, .inr (.inr rfl), hfl.2.2.2.1, hfl.2.1, htl.obj HP.out.o9 hfl.2.1⟩;have HGC := lh (groups_all k _ w3 z b9 a z _ d hgp HD.out.1 HD.out.2.1 (nlr _) HD.out.2.2.2);have HL := lh (aI htl (aI (htl.obj HP.out.o8 hfl.1) hfl));clear hfS hlim htl hfl hob hgp;go_upto_region 9 with fail;rw [<- hw3];clear hw3 e2 ef hfl2;go_wp2_with fail;go_at_call 54;with_reducible refine HGC.out.mono ?_
   rintro e w4 ⟨rfl, hgD, htD⟩;obtain ⟨sp, hsp⟩ : ∃ sp, sp = spM (evT F.T F.b d.t) a z := ⟨_, rfl⟩;have hgD : GrpP (fun k => S k \/ k = b8 \/ k = b9) fb F z b9 w4 sp := (by rw [hsp]; exact hgD);rw [<- hsp];have ho8 := htD.obj HL.out.2.1 (fun e => e.elim HL.out.2.2.2.2.1 HL.out.2.2.2.2.2.2);have HSP := lh hsp;clear hsp;have hl8 := lts ho8;have hl9 := lts hgD.mat;have hne : b8 ≠ b9 := HL.out.2.2.2.2.2.2;have HQ := lh (aI hgD (aI htD ho8));clear hgD htD ho8;go_upto_region 10 with fail;refine wp_region_lit ?_;refine wpList_load_row rfl 34 (.tmp 9) rfl b9 rfl 34 (spC sp) (0, 0) _ HQ.out.1.mat Tryz.underlying34 rfl (by kernel_rfl) ?_;refine wpList_store_row rfl 34 (.tmp 8) (.tmp 31) rfl b8 (spC sp) rfl rfl 34 _ HQ.out.2.2 (by kernel_rfl) rfl (spC_one sp) ?_;refine wpList_nil ?_;obtain ⟨w5, hw5⟩ : ∃ w5, w5 = w4.setRow b8 (spC sp) := ⟨_, rfl⟩;have ho5 : w5.heap[b8]? = some (.cells (spC sp) 34 (0, 0)) := (by rw [hw5]; exact setRow_heap w4 b8 _ _ _ _ HQ.out.2.2)
   have ht5 : Turned (· = b8) w4 w5 := by
    rw [hw5];exact ⟨rfl, rfl, rfl, by rw [setRow_size]; exact nlr _, fun j _ hn => setRow_other w4 b8 j _ hn⟩
   rw [<- hw5];have HT5 := lh (aI ht5 ho5);clear hw5 ht5 hl8 hl9 hne;go_wp2_with fail;refine bodyPost_ret (v := .agg (spC sp)) (results_cell_row rfl _ w5 b8 34 (spC sp) (0, 0) _ rfl HT5.out.2 Tryz.underlying34 rfl (by kernel_rfl)) rfl ?_;rw [<- HSP.out];refine ⟨rfl, (HQ.out.1.fin.go HT5.out.1 (fun k hk _ => by rw [hk]; exact ⟨.inr (.inl rfl), HL.out.2.2.2.2.1, HL.out.2.2.1⟩) HQ.out.1.fin.sm HQ.out.1.fin.sf (fun k hk => .inl hk) fun k hk => Nat.lt_of_lt_of_le (HQ.out.1.fin.old k hk) HT5.out.1.size).weaken HH.out.sm HH.out.sf fun k hk => .inl hk, ?_⟩;have t1 : Turned (fun j => j = F.mb \/ j = fb \/ w.heap.size <= j) w w2 := Turned.of_below HP.out.bel;have t2 : Turned (fun j => j = F.mb \/ j = fb \/ w.heap.size <= j) w w3 := t1.trans HL.out.1 fun j _ e => .inr (.inl e);have t3 : Turned (fun j => j = F.mb \/ j = fb \/ w.heap.size <= j) w w4 := t2.trans HQ.out.2.1 fun j _ e => e.elim .inl fun e => .inr (.inr (by have := HB.out.2.1; omega));have t4 : Turned (fun j => j = F.mb \/ j = fb \/ w.heap.size <= j) w w5 := t3.trans HT5.out.1 fun j _ e => .inr (.inr (by have := HB.out.1; omega))
   exact ⟨t4.os, t4.tape, t4.output, t4.size, fun j hj hn => t4.block j hj fun e => by
    rcases e with e | e | e
    ·exact hn (.inl e)
    ·exact hn (.inr e)
    ·omega⟩
open Go.RowKit Go.Deep Go.Sort
def NewE (s : ByteArray) (b : Bool) (L : Nat) (w : World) (e : Ending) (w' : World) : Prop := ∃ fb mb, e = .returned (ptrV fb) /\ Below w.heap.size w w' /\ w.heap.size <= fb /\ w.heap.size <= mb /\ NumAt (fun k => k = mb \/ k = fb) w' fb ⟨s, b, mb, none, 0, []⟩ L
theorem new_post {w W : World} {s : ByteArray} {b : Bool} {L : Nat} (hD : DebAt w) (hs : s.size <= 100000) (hL : L <= s.size) (hW : W = (w.alloc (.map #[] 0)).alloc (.cells #[.string s, .bool b, .int .i64 (L : Int), .slice none 0 0, .map (some w.heap.size)] 100)) : NewE s b L w (.returned (ptrV (w.heap.size + 1))) W := by
 obtain ⟨hb, hsz⟩ := obj2 hW;have hm : W.heap[w.heap.size]? = some (.map #[] 0) := (by rw [hW]; exact old_obj' (heap_alloc_new w _) _)
 have hf : W.heap[w.heap.size + 1]? = some (.cells #[.string s, .bool b, .int .i64 (L : Int), .slice none 0 0, .map (some w.heap.size)] 100 (0, 0)) := by
  rw [hW];have := heap_alloc_new (w.alloc (.map #[] 0)) (.cells #[.string s, .bool b, .int .i64 (L : Int), .slice none 0 0, .map (some w.heap.size)] 100);rw [World.size_alloc] at this;exact this
 have hg : 0 < w.heap.size := World.block_lt_of_cell? w _ (hD 0 (by decide));refine ⟨w.heap.size + 1, w.heap.size, rfl, hb, Nat.le_succ _, nlr _, ⟨fun k hk => by omega, .inl rfl, .inr rfl, by show w.heap.size + 1 ≠ w.heap.size; omega, hf, ⟨rfl, .inl ⟨rfl, rfl⟩⟩, (fun k hk => by cases hk), (fun k d hd => by simp at hd), (fun k d hd => by simp at hd), hm, hD.below hb, (fun h => by rcases h with h | h <;> omega), (fun h => by cases h), hs, by simp, hL⟩⟩
set_option maxRecDepth 100000 in
theorem new_is {w : World} (s : ByteArray) (b : Bool) (L : Nat) (hD : DebAt w) (hs : s.size <= 100000) (hL : L <= s.size) : Calls Tryz.prog 26 #[.string s, .bool b, .int .i64 (L : Int)] w (NewE s b L w) := by
 have HP := lh (new_post (b := b) hD hs hL rfl);have hmm : (Instr.makeMap 97 none).run Tryz.prog w = .ok (.map (some w.heap.size)) (w.alloc (.map #[] 0)) := rfl;clear hD hs hL;go_enter Tryz.func26, Tryz.ntmps26;go_wp2_with fail;go_ret;exact HP.out
open Go.RowKit Go.Deep Go.Sort
theorem bel_new {S : Nat -> Prop} {w a b : World} (h : Below w.heap.size w a) (ht : Turned S a b) (hS : ∀ k, S k -> w.heap.size <= k) : Below w.heap.size w b :=
 h.trans (ht.to_below h.size hS)
open Go.RowKit Go.Deep Go.Sort
theorem results_mat {fn : Func} {tmps : Array Value} {w : World} {g : Nat} {sp : Sp} {b : Bool} (h : fn.results = #[.cell 8 34, .tmp 9]) (hp : tmps.getD 8 undef = .pointer (some ⟨g, 0, none⟩)) (hb : tmps.getD 9 undef = .bool b) (hg : w.heap[g]? = some (.cells (spC sp) 34 (0, 0))) :
  (results fn tmps).run Tryz.prog w = .ok (.tuple #[.agg (spC sp), .bool b]) w := by
 rw [results_cell_tmp h, hp, hb];have hl := run_loadVar_row (P := Tryz.prog) w g 34 34 (spC sp) (0, 0) _ hg Tryz.underlying34 rfl (by kernel_rfl);simp [asAddr, Result.andThen, hl]
def FindR (T : List UInt8) (b : Bool) (t : PN) (fr : Int) (ok : Bool) (sp : Sp) : Prop :=
 (ok = false /\ sp = spI 0 /\ (fr < 0 \/ (T.length : Int) < fr \/ 1024 < T.length \/ ∀ i j : Nat, fr <= (i : Int) -> i <= T.length -> semT T b t i j = false)) ∨
 (ok = true /\ 0 <= fr /\ T.length <= 1024 /\ ∃ i z : Nat, fr <= (i : Int) /\ z <= T.length /\ semT T b t i z = true /\ (∀ k j : Nat, fr <= (k : Int) -> k < i -> semT T b t k j = false) /\ (∀ j : Nat, z < j -> semT T b t i j = false) /\ sp = spM (evT T b t) i z)
def FindE (T : List UInt8) (b : Bool) (t : PN) (fr : Int) (w : World) (e : Ending) (w' : World) : Prop := ∃ (sp : Sp) (ok : Bool), e = .returned (.tuple #[.agg (spC sp), .bool ok]) /\ FindR T b t fr ok sp /\ Below w.heap.size w w'
set_option maxRecDepth 100000 in
set_option maxHeartbeats 2000000 in
theorem find_is {w : World} {t : PN} {x : NV} {s : ByteArray} (b : Bool) (fr : Int) (hx : IsP (fun _ => False) w t x) (hD : DebAt w) (hn : nodT t <= 100000) :
  Calls Tryz.prog 16 #[x.v, .string s, .int .i64 fr, .bool b] w (FindE s.data.toList b t fr w) := by
 obtain ⟨xk, xs, xlo, xhi, xnum, xA, xn, xc⟩ := x;unfold NV.v nodeV;simp only;have HX := lh (aI hx (aI hD hn));clear hx hD hn;go_enter Tryz.func16, Tryz.ntmps16;go_upto_region 1 with fail;obtain ⟨W, hW⟩ : ∃ W, W = (w.alloc (.cells #[.int .i64 xk, .int .u64 (xs 0), .int .u64 (xs 1), .int .u64 (xs 2), .int .u64 (xs 3), .int .i64 xlo, .int .i64 xhi, .int .i64 xnum, .slice xA xn xc] 28)).alloc (.cells (spC (spI 0)) 34) := ⟨_, rfl⟩;have hob := obj2 hW;have h5 : W.heap[w.heap.size]? = some (.cells #[.int .i64 xk, .int .u64 (xs 0), .int .u64 (xs 1), .int .u64 (xs 2), .int .u64 (xs 3), .int .i64 xlo, .int .i64 xhi, .int .i64 xnum, .slice xA xn xc] 28 (0, 0)) := (by rw [hW]; exact old_obj' (heap_alloc_new w _) _)
 have h8 : W.heap[w.heap.size + 1]? = some (.cells (spC (spI 0)) 34 (0, 0)) := by
  rw [hW];have := heap_alloc_new (w.alloc (.cells #[.int .i64 xk, .int .u64 (xs 0), .int .u64 (xs 1), .int .u64 (xs 2), .int .u64 (xs 3), .int .i64 xlo, .int .i64 xhi, .int .i64 xnum, .slice xA xn xc] 28)) (.cells (spC (spI 0)) 34);rw [World.size_alloc] at this;exact this
 obtain ⟨b5, hb5⟩ : ∃ b, b = w.heap.size := ⟨_, rfl⟩;obtain ⟨b8, hb8⟩ : ∃ b, b = w.heap.size + 1 := ⟨_, rfl⟩;have hW2 : W = (w.alloc (.cells #[.int .i64 xk, .int .u64 (xs 0), .int .u64 (xs 1), .int .u64 (xs 2), .int .u64 (xs 3), .int .i64 xlo, .int .i64 xhi, .int .i64 xnum, .slice xA xn xc] 28)).alloc (.cells #[.int .i64 0, .int .i64 0, .int .i64 0, .int .i64 0, .int .i64 0, .int .i64 0, .int .i64 0, .int .i64 0, .int .i64 0, .int .i64 0, .int .i64 0, .int .i64 0, .int .i64 0, .int .i64 0, .int .i64 0, .int .i64 0, .int .i64 0, .int .i64 0, .int .i64 0, .int .i64 0] 34) := hW;rw [<- hW2, <- hb8, <- hb5];rw [<- hb8] at h8;rw [<- hb5] at h5;have HB := lh (aI hb5 (aI hb8 (aI hob.1 (aI h5 h8))));clear hW hW2 hob h5 h8 hb5 hb8;by_cases h0 : fr < 0
 ·have H0 := lh h0;have h0b : decide (fr < 0) = true := dqt h0;clear h0;go_upto_region 2 with fail;refine wp_region_lit ?_;refine wpList_buildTo rfl 34 #[] rfl (some 28) rfl (spC (spI 0)) (by kernel_rfl) ?_;refine wpList_store_row rfl 34 (.tmp 8) (.tmp 28) rfl b8 (spC (spI 0)) rfl rfl 34 _ HB.out.2.2.2.2 (by kernel_rfl) rfl (spC_one _) ?_;rw [setRow_self _ _ _ _ _ HB.out.2.2.2.2];go_wp2_with fail;refine bodyPost_ret (v := .tuple #[.agg (spC (spI 0)), .bool false]) (results_mat rfl rfl rfl HB.out.2.2.2.2) rfl ⟨spI 0, false, rfl, .inl ⟨rfl, rfl, .inl H0.out⟩, HB.out.2.2.1⟩
 have h0b : decide (fr < 0) = false := dqf h0;obtain ⟨p, hp⟩ : ∃ p : Nat, fr = (p : Int) := ⟨fr.toNat, by omega⟩;subst hp;by_cases h1 : s.size < p
 ·have H1 := lh h1;have h1b : decide ((s.size : Int) < (p : Int)) = true := dqt (by omega);have h1n : decide (s.size < p) = true := dqt h1;clear h1 h0;go_upto_region 2 with fail;refine wp_region_lit ?_;refine wpList_buildTo rfl 34 #[] rfl (some 28) rfl (spC (spI 0)) (by kernel_rfl) ?_;refine wpList_store_row rfl 34 (.tmp 8) (.tmp 28) rfl b8 (spC (spI 0)) rfl rfl 34 _ HB.out.2.2.2.2 (by kernel_rfl) rfl (spC_one _) ?_;rw [setRow_self _ _ _ _ _ HB.out.2.2.2.2];go_wp2_with fail;refine bodyPost_ret (v := .tuple #[.agg (spC (spI 0)), .bool false]) (results_mat rfl rfl rfl HB.out.2.2.2.2) rfl ⟨spI 0, false, rfl, .inl ⟨rfl, rfl, .inr (.inl (by show (s.size : Int) < (p : Int); have := H1.out; omega))⟩, HB.out.2.2.1⟩
 have h1b : decide ((s.size : Int) < (p : Int)) = false := dqf (by omega);have h1n : decide (s.size < p) = false := dqf h1;by_cases h2 : 1024 < s.size
 ·have H2 := lh h2;have h2b : decide ((1024 : Int) < (s.size : Int)) = true := dqt (by omega);have h2n : decide (1024 < s.size) = true := dqt h2;clear h2 h1 h0;go_upto_region 2 with fail;refine wp_region_lit ?_;refine wpList_buildTo rfl 34 #[] rfl (some 28) rfl (spC (spI 0)) (by kernel_rfl) ?_;refine wpList_store_row rfl 34 (.tmp 8) (.tmp 28) rfl b8 (spC (spI 0)) rfl rfl 34 _ HB.out.2.2.2.2 (by kernel_rfl) rfl (spC_one _) ?_;rw [setRow_self _ _ _ _ _ HB.out.2.2.2.2];go_wp2_with fail;refine bodyPost_ret (v := .tuple #[.agg (spC (spI 0)), .bool false]) (results_mat rfl rfl rfl HB.out.2.2.2.2) rfl ⟨spI 0, false, rfl, .inl ⟨rfl, rfl, .inr (.inr (.inl (by show 1024 < s.size; exact H2.out)))⟩, HB.out.2.2.1⟩
 have h2b : decide ((1024 : Int) < (s.size : Int)) = false := dqf (by omega);have h2n : decide (1024 < s.size) = false := dqf h2;have hps : p <= s.size := (by omega);have hs : s.size <= 1024 := (by omega);have HNW := lh (new_is (w := W) s b s.size (HX.out.2.1.below HB.out.2.2.1) (by omega) (nlr _));have HS := lh (aI hps hs);clear hps hs h0 h1 h2;go_upto_region 3 with fail;go_wp2_with fail;go_at_call 26;with_reducible refine HNW.out.mono ?_
 rintro e w1 ⟨fb, mb, rfl, hb1, hfb, hmb, hnum⟩;have ho5 := bobj hb1 HB.out.2.2.2.1 (lts HB.out.2.2.2.1);have hl5 := lts HB.out.2.2.2.1;have hl8 := lts HB.out.2.2.2.2;have hWs := HB.out.2.2.1.size
 have hnc := number_all t _ w1 fb _ s.size _ hnum (((HX.out.1.stays HB.out.2.2.1).fresh' (S' := fun k => (k = mb \/ k = fb) \/ (⟨s, b, mb, none, 0, []⟩ : FN).own k) fun k hk => by
  right;rcases hk with (hk | hk) | hk
  ·omega
  ·omega
  ·cases hk).stays hb1) (by have := HX.out.2.2; simpa using this)
 unfold NV.v nodeV at hnc;simp only at hnc;have HNC := lh hnc;have HM := lh (aI hb1 (aI hfb (aI hmb (aI hl5 hl8))))
 obtain ⟨e0, e1, e2, e3, e4, e5, e6, e7, e8⟩ : w1.cell? ⟨b5, 0, none⟩ = some (.int .i64 xk) /\ w1.cell? ⟨b5, 1, none⟩ = some (.int .u64 (xs 0)) /\ w1.cell? ⟨b5, 2, none⟩ = some (.int .u64 (xs 1)) /\ w1.cell? ⟨b5, 3, none⟩ = some (.int .u64 (xs 2)) /\ w1.cell? ⟨b5, 4, none⟩ = some (.int .u64 (xs 3)) /\ w1.cell? ⟨b5, 5, none⟩ = some (.int .i64 xlo) /\ w1.cell? ⟨b5, 6, none⟩ = some (.int .i64 xhi) /\ w1.cell? ⟨b5, 7, none⟩ = some (.int .i64 xnum) /\ w1.cell? ⟨b5, 8, none⟩ = some (.slice xA xn xc) := by
  refine ⟨?_, ?_, ?_, ?_, ?_, ?_, ?_, ?_, ?_⟩ <;> (rw [obc ho5]; rfl)
 clear hb1 hfb hmb hnum ho5 hWs hl5 hl8 hnc;go_wp2_with fail;go_at_call 27;with_reducible refine HNC.out.mono ?_
 rintro e w2 ⟨A, c, l, k, d, rfl, hnd⟩;obtain ⟨F, hF⟩ : ∃ F, F = (⟨s, b, mb, none, 0, []⟩ : FN).with' A c l := ⟨_, rfl⟩;have hfd : FindAt (fun k => k = mb \/ k = fb) w2 fb F F.N := (by rw [hF]; exact hnd.num.find);have hdk : F.nds[k]? = some d := (by rw [hF]; exact hnd.nd);have hFN : F.N = s.size /\ F.T = s.data.toList /\ F.b = b /\ F.mb = mb := (by rw [hF]; exact ⟨rfl, rfl, rfl, rfl⟩);have hlm := leftmost_is hfd hdk (a := p) (by rw [hFN.1]; exact HS.out.1)
 have hb2 : Below w.heap.size w w2 := bel_new (HB.out.2.2.1.trans (HM.out.1.mono HB.out.2.2.1.size)) hnd.tur fun j hj => by
  have h1 := HM.out.2.1;have h2 := HB.out.2.2.1.size;rcases hj with hj | hj
  ·omega
  ·cases hj
 have ho8 : w2.heap[b8]? = some (.cells (spC (spI 0)) 34 (0, 0)) := hnd.tur.obj (bobj HM.out.1 HB.out.2.2.2.2 HM.out.2.2.2.2) fun hj => by
  have h1 := HM.out.2.1;have h2 := HM.out.2.2.2.2;rcases hj with hj | hj
  ·omega
  ·cases hj
 have HLM := lh (aI hlm (aI hb2 (aI hnd.tr (aI ho8 (aI hFN hdk)))));clear hnd hfd hdk hlm hb2 ho8 hFN hF e0 e1 e2 e3 e4 e5 e6 e7 e8;go_wp2_with fail;go_at_call 28;with_reducible refine HLM.out.1.mono ?_
 rintro e w3 ⟨r, ok, rfl, hyes, hno, hfin, ht3⟩
 have hmbl : mb ≠ b8 /\ w.heap.size <= mb /\ fb ≠ b8 /\ w.heap.size <= fb := by
  have h1 := HM.out.2.2.1;have h2 := HM.out.2.2.2.2;have h3 := HM.out.2.1;have h4 := HB.out.2.2.1.size;omega
 have hFm : F.mb = mb := HLM.out.2.2.2.2.1.2.2.2;have ho8 := ht3.obj HLM.out.2.2.2.1 (fun e => hmbl.1 (by rw [<- hFm]; exact e.symm));have hb3 := bel_new HLM.out.2.1 ht3 fun j hj => by rw [hj, hFm]; exact hmbl.2.1
 have HL3 := lh (aI ho8 (aI hb3 (aI hfin hmbl)));cases ok
 ·have hn := hno rfl
  have HNO := lh (show ∀ i j : Nat, (p : Int) <= (i : Int) -> i <= s.data.toList.length -> semT s.data.toList b t i j = false from fun i j hij (hiN : i <= s.size) => by
   obtain ⟨f1, f2, f3, f4⟩ := HLM.out.2.2.2.2.1;cases hc : semT s.data.toList b t i j with
   | false => rfl
   | true =>
    have hrel : F.rel d.t i j = true := by
     unfold FN.rel;rw [f2, f3, HLM.out.2.2.1];exact hc
    exact absurd ⟨j, hrel⟩ (hn i (by omega) (by omega)))
  clear hyes hno hn hfin ht3 hmbl hFm ho8 hb3;go_upto_region 7 with fail;refine wp_region_lit ?_;refine wpList_buildTo rfl 34 #[] rfl (some 46) rfl (spC (spI 0)) (by kernel_rfl) ?_;refine wpList_store_row rfl 34 (.tmp 8) (.tmp 46) rfl b8 (spC (spI 0)) rfl rfl 34 _ HL3.out.1 (by kernel_rfl) rfl (spC_one _) ?_;rw [setRow_self _ _ _ _ _ HL3.out.1];go_wp2_with fail;refine bodyPost_ret (v := .tuple #[.agg (spC (spI 0)), .bool false]) (results_mat rfl rfl rfl HL3.out.1) rfl ⟨spI 0, false, rfl, .inl ⟨rfl, rfl, .inr (.inr (.inr HNO.out))⟩, HL3.out.2.1⟩
 ·obtain ⟨hpr, hrN, hbg, hlst⟩ := hyes rfl;obtain ⟨f1, f2, f3, f4⟩ := HLM.out.2.2.2.2.1;have hrs : r <= s.size := (by omega);have HO := lh (only_is r F.N hrN (by have := hfin.small; omega) w3);have HEN := lh fun (V : World) (x : Ix) (ha : Ask (fun k => k = mb \/ k = fb) fb F F.N r V x) => ends_is ha HLM.out.2.2.2.2.2 (long_all k);have HLS := lh (aI hpr (aI hrN (aI hbg (aI hlst hrs))));have HSM := lh hfin.small;clear hyes hno ht3 hmbl hFm ho8 hb3 hpr hrN hbg hlst hrs f1 f2 f3 f4;go_wp2_with fail;go_at_call 30;with_reducible refine HO.out.mono ?_
  rintro e w4 ⟨xi, he, hmi, hb4⟩;obtain ⟨ni, hni⟩ : ∃ n, n = xi.ws.length := ⟨_, rfl⟩;have hvi : xi.v = .agg #[.int .i64 (xi.f : Int), .slice xi.A ni xi.c] := (by unfold Ix.v; rw [hni]);rw [hvi] at he;subst he;have hxi : xi.mem = onlyB r := funext fun j => by rw [hmi.is j]; rfl
  have hea := HEN.out w4 xi ⟨hfin.below hb4, hmi.at'.weaken fun j hj => hfin.old j hj, fun j hj => by rw [hxi, onlyB_iff] at hj; rw [hj]; exact HLS.out.2.1, hmi.low⟩;rw [hvi] at hea;have HEA := lh hea;have HA := lh (aI hb4 hxi);clear hmi hb4 hni hvi hxi hfin hea;go_wp2_with fail;go_at_call 29;with_reducible refine HEA.out.mono ?_
  rintro e w5 ⟨X, he, hg⟩;obtain ⟨nX, hnX⟩ : ∃ n, n = X.ws.length := ⟨_, rfl⟩;have hvX : X.v = .agg #[.int .i64 (X.f : Int), .slice X.A nX X.c] := (by unfold Ix.v; rw [hnX]);rw [hvX] at he;subst he;obtain ⟨W6, hW6⟩ : ∃ W, W = w5.alloc (.cells #[.int .i64 (X.f : Int), .slice X.A nX X.c] 68) := ⟨_, rfl⟩;have hb6 : Below w5.heap.size w5 W6 := (by rw [hW6]; exact bW w5 _);have ho6 : W6.heap[w5.heap.size]? = some (.cells #[.int .i64 (X.f : Int), .slice X.A nX X.c] 68 (0, 0)) := (by rw [hW6]; exact heap_alloc_new w5 _);obtain ⟨b14, hb14⟩ : ∃ b, b = w5.heap.size := ⟨_, rfl⟩;have hla := last_ix (w := W6) (hg.at'.stays hb6) (hg.at'.stays hb6) (by have := HSM.out; omega);rw [hvX] at hla;have HLA := lh hla;have hX := hg.is;rw [HA.out.2] at hX;have ht5 : Turned (· = F.mb) w3 w5 := turBT HA.out.1 hg.tur;have hl5 : w3.heap.size <= w5.heap.size := ht5.size;have hl3 := lts HL3.out.1;have h8b : b14 ≠ b8 := (by omega);have HG := lh (aI (hg.fin.below hb6) (aI hX (aI ht5 (aI hb6 (aI h8b hl3)))));clear hg hnX hvX hb6 hla hX ht5 hl5 hl3 h8b;go_upto_region 9 with fail;rw [<- hW6, <- hb14];rw [<- hb14] at ho6;obtain ⟨o0, o1, _, _, ol⟩ := box_all ho6;clear hW6 hb14 ho6;go_wp2_with fail;go_at_call 32;with_reducible refine HLA.out.mono ?_
  rintro e w7 ⟨q, rfl, hlq, hb7⟩
  obtain ⟨z, hz, hrz, hzN, hgr⟩ : ∃ z : Nat, q = (z : Int) /\ F.rel d.t r z = true /\ z <= F.N /\ ∀ j, z < j -> F.rel d.t r j = false := by
   have hle : ∀ j, F.rel d.t r j = true -> j <= F.N := fun j hj => ((F.fit d.t) r j hj).2 HLS.out.2.1;rcases hlq with ⟨_, hn⟩ | ⟨z, e1, e2, _, e3⟩
   ·obtain ⟨j, hj⟩ := HLS.out.2.2.1;have h1 := (HG.out.2.1.one (hle j hj)).2 hj;have h2 := hn j h1;rw [h1] at h2;cases h2
   ·obtain ⟨i0, i1, i2⟩ := HG.out.2.1.snd z e2;rw [onlyB_iff] at i1;rw [i1] at i2;refine ⟨z, e1, i2, hle z i2, fun j hj => ?_⟩;cases hc : F.rel d.t r j with
    | false => rfl
    | true =>
     have h1 := (HG.out.2.1.one (hle j hc)).2 hc;have h2 := e3 j hj h1;rw [h1] at h2;cases h2
  subst hz;have hfin7 := HG.out.1.below hb7;have hfo := found_is hfin7 HLM.out.2.2.2.2.2 (((F.fit d.t) r z hrz).1) hzN hrz;have HFO := lh hfo;have HZ := lh (aI hrz (aI hzN (aI hgr hb7)));clear hlq hb7 hrz hzN hgr hfin7 hfo o0 o1 ol;go_wp2_with fail;go_at_call 31;with_reducible refine HFO.out.mono ?_
  rintro e w8 ⟨rfl, _, ht8⟩;rename_i hK _;have hFm : F.mb = mb := HLM.out.2.2.2.2.1.2.2.2;obtain ⟨n1, n2, n3, n4⟩ := HL3.out.2.2.2;have hb7' : Below w5.heap.size w5 w7 := HG.out.2.2.2.1.trans (HZ.out.2.2.2.mono HG.out.2.2.2.1.size);have ho5 := HG.out.2.2.1.obj HL3.out.1 (fun e => n1 (by rw [<- hFm]; exact e.symm));have ho7 := bobj hb7' ho5 (lts ho5);have ho8 := ht8.obj ho7 (fun e => e.elim (fun e => n1 (by rw [<- hFm]; exact e.symm)) fun e => n3 e.symm);obtain ⟨sp, hsp⟩ : ∃ sp, sp = spM (evT F.T F.b d.t) r z := ⟨_, rfl⟩;rw [<- hsp];refine hK _ _ ?_;refine wpList_store_row rfl 34 (.tmp 8) (.tmp 58) rfl b8 (spC sp) rfl rfl 34 _ ho8 (by kernel_rfl) rfl (spC_one sp) ?_;obtain ⟨w9, hw9⟩ : ∃ w9, w9 = w8.setRow b8 (spC sp) := ⟨_, rfl⟩;have ho9 : w9.heap[b8]? = some (.cells (spC sp) 34 (0, 0)) := (by rw [hw9]; exact setRow_heap w8 b8 _ _ _ _ ho8)
  have ht9 : Turned (· = b8) w8 w9 := by
   rw [hw9];exact ⟨rfl, rfl, rfl, by rw [setRow_size]; exact nlr _, fun j _ hn => setRow_other w8 b8 j _ hn⟩
  have hbel : Below w.heap.size w w9 := by
   have c1 := bel_new HL3.out.2.1 HG.out.2.2.1 fun j hj => by rw [hj, hFm]; exact n2
   have c2 : Below w.heap.size w w7 := c1.trans (hb7'.mono c1.size)
   have c3 := bel_new c2 ht8 fun j hj => by
    rcases hj with hj | hj
    ·rw [hj, hFm]; exact n2
    ·rw [hj]; exact n4
   exact bel_new c3 ht9 fun j hj => by rw [hj, HB.out.2.1]; exact Nat.le_succ _
  have HPP := lh (show FindR s.data.toList b t (p : Int) true sp from by
   obtain ⟨g1, g2, g3, _⟩ := HLM.out.2.2.2.2.1;have htr := HLM.out.2.2.1;have hr1 := HZ.out.1;have hr3 := HZ.out.2.2.1;have hr4 := HLS.out.2.2.2.1;unfold Bg at hr4;unfold FN.rel at hr1 hr3 hr4;rw [g2, g3, htr] at hr1 hr3 hr4;rw [g2, g3, htr] at hsp;refine .inr ⟨rfl, by omega, HS.out.2, r, z, ?_, ?_, hr1, fun k' j h1 h2 => ?_, hr3, hsp⟩
   ·have := HLS.out.1; omega
   ·show z <= s.size;have := HZ.out.2.1; omega
   ·cases hc : semT s.data.toList b t k' j with
    | false => rfl
    | true => exact absurd ⟨j, hc⟩ (hr4 k' (by omega) h2))
  have HQ := lh (aI ho9 hbel);rw [<- hw9];clear hK ht8 hFm n1 n2 n3 n4 hb7' ho5 ho7 ho8 hsp hw9 ho9 ht9 hbel;go_wp2_with fail;refine bodyPost_ret (v := .tuple #[.agg (spC sp), .bool true]) (results_mat rfl rfl rfl HQ.out.1) rfl ⟨sp, true, rfl, HPP.out, HQ.out.2⟩
end Go.Proofs.YtflkfleihlceeaaGreatDoor

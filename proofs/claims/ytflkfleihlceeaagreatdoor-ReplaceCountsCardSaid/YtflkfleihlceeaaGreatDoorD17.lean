import Derived.Test.YtflkfleihlceeaaGreatDoorD12
/-
 The finder while its nodes are numbered: its row of nodes is its own. No condition.
-/
namespace Go.Proofs.YtflkfleihlceeaaGreatDoor
open Go.RowKit Go.Deep Go.Sort
mutual
def nodT : PN -> Nat
 | .mk k _ _ _ _ ks => 1 + (if k = 2 \/ k = 3 then nodL ks else if k = 4 \/ k = 5 then nodH ks else 0)
def nodL : List PN -> Nat
 | [] => 0
 | t :: ts => nodT t + nodL ts
def nodH : List PN -> Nat
 | [] => 1
 | t :: _ => nodT t
end
theorem nod_nothing : nodT nothing = 1 := by
 unfold nothing;rw [nodT];simp
theorem nod_cnt (t : PN) : nodT t = 1 + nodL (kidsOf t) := by
 obtain ⟨k, S, lo, hi, num, ks⟩ := t;rw [nodT];show _ = 1 + nodL (kidsK k ks);unfold kidsK;by_cases h2 : k = 2 \/ k = 3
 ·rw [if_pos h2, if_pos h2]
 ·rw [if_neg h2, if_neg h2];by_cases h4 : k = 4 \/ k = 5
  ·rw [if_pos h4, if_pos h4];cases ks with
   | nil => simp [nodH, nodL, nod_nothing]
   | cons t ts => simp [nodH, nodL]
  ·rw [if_neg h4, if_neg h4];rfl
theorem nodL_append (a b : List PN) : nodL (a ++ b) = nodL a + nodL b := by
 induction a with
 | nil => simp [nodL]
 | cons t ts ih => simp only [List.cons_append, nodL, ih]; omega
theorem nodL_take {ts : List PN} {i : Nat} {t : PN} (h : ts[i]? = some t) : nodL (ts.take (i + 1)) = nodL (ts.take i) + nodT t := by
 have hl := (List.getElem?_eq_some_iff.1 h).1
 have e : ts.take (i + 1) = ts.take i ++ [t] := by
  rw [List.take_add_one, h];rfl
 rw [e, nodL_append];simp [nodL]
theorem nodL_le (ts : List PN) (i : Nat) : nodL (ts.take i) <= nodL ts := by
 have h := nodL_append (ts.take i) (ts.drop i);rw [List.take_append_drop] at h;omega
theorem nod_pos (t : PN) : 1 <= nodT t := by rw [nod_cnt]; omega
theorem nodL_len : ∀ ts : List PN, ts.length <= nodL ts
 | [] => Nat.zero_le _
 | t :: ts => by
  have := nodL_len ts;have := nod_pos t;simp only [List.length_cons, nodL];omega
theorem NodeP.ext {nds : List ND} {k : Nat} {d : ND} (h : NodeP nds k d) (l : List ND) : NodeP (nds ++ l) k d :=
 ⟨h.kind, h.set, h.lo, h.hi, h.num, h.len, fun j q hq => by
  obtain ⟨h1, d', h2, h3⟩ := h.kid j q hq
  exact ⟨h1, d', by rw [List.getElem?_append_left (List.getElem?_eq_some_iff.1 h2).1]; exact h2, h3⟩, h.emp, h.grp, h.cap, h.many⟩
theorem ext_at {nds : List ND} {k : Nat} {d : ND} (h : nds[k]? = some d) (l : List ND) : (nds ++ l)[k]? = some d := by rw [List.getElem?_append_left (List.getElem?_eq_some_iff.1 h).1]; exact h
theorem StepV.ext {S : Nat -> Prop} {w : World} {fb : Nat} {nds : List ND} {k : Nat} {v : Value} (l : List ND) (h : StepV S w fb nds k v) : StepV S w fb (nds ++ l) k v := by
 induction h with
 | one hd hk hv => exact .one (ext_at hd l) hk hv
 | grp hd hk hq _ ih => exact .grp (ext_at hd l) hk hq ih
 | oth hd h1 h5 hb1 hb2 => exact .oth (ext_at hd l) h1 h5 hb1 hb2
theorem FlowV.ext {S : Nat -> Prop} {w : World} {fb : Nat} {nds : List ND} {d : ND} {v : Value} (l : List ND) (h : FlowV S w fb nds d v) : FlowV S w fb (nds ++ l) d v := by
 cases h with
 | one hk hb hv => exact .one hk hb hv
 | row hk hb1 hb2 => exact .row hk hb1 hb2
 | alt hk hb1 hb2 => exact .alt hk hb1 hb2
 | grp hk hb1 hb2 => exact .grp hk hb1 hb2
 | spr hk hh hq hd hs hb1 hb2 => exact .spr hk hh hq (ext_at hd l) hs hb1 hb2
 | rep hk hq hd hb1 hb2 hb3 hv hb4 hb5 => exact .rep hk hq (ext_at hd l) hb1 hb2 hb3 (hv.ext l) hb4 hb5
 | oth h1 h2 h3 h4 h5 => exact .oth h1 h2 h3 h4 h5
theorem NodeM.ext {S : Nat -> Prop} {w : World} {fb : Nat} {nds : List ND} {d : ND} (l : List ND) (h : NodeM S w fb nds d) : NodeM S w fb (nds ++ l) d := ⟨h.kids, h.flow.ext l⟩
def FN.own (F : FN) (k : Nat) : Prop := (Value.slice F.A F.nds.length F.c).ownBlock = some k
structure NumAt (S : Nat -> Prop) (w : World) (fb : Nat) (F : FN) (L : Nat) : Prop where
 old : ∀ k, S k -> k < w.heap.size
 sm : S F.mb
 sf : S fb
 ne : fb ≠ F.mb
 obj : w.heap[fb]? = some (.cells #[.string F.s, .bool F.b, .int .i64 (L : Int), .slice F.A F.nds.length F.c, .map (some F.mb)] 100 (0, 0))
 row : w.ownsRow 0 106 13 (.slice F.A F.nds.length F.c) F.nds.length (ndsV F.nds)
 off : ∀ k, F.own k -> ¬ S k
 dat : ∀ (k : Nat) (d : ND), F.nds[k]? = some d -> NodeP F.nds k d
 mem : ∀ (k : Nat) (d : ND), F.nds[k]? = some d -> NodeM (fun j => S j \/ F.own j) w fb F.nds d
 map : w.heap[F.mb]? = some (.map #[] 0)
 deb : DebAt w
 gdeb : ¬ S 0
 gown : ¬ F.own 0
 small : F.N <= 100000
 few : F.nds.length <= 100000
 lim : L <= F.N
theorem own_lt {w : World} {base : Nat} {e : TypeId} {sz : Nat} {v : Value} {n : Nat} {vs : List Value} (h : w.ownsRow base e sz v n vs) {k : Nat} (hk : v.ownBlock = some k) : k < w.heap.size := (World.ownsRow.lt h k hk).2
theorem NumAt.find {S : Nat -> Prop} {w : World} {fb L : Nat} {F : FN} (h : NumAt S w fb F L) : FindAt S w fb F L := by
 obtain ⟨A, c, e, hc, hr, hl⟩ := own_form h.row;cases e
 refine ⟨h.old, h.sm, h.sf, h.ne, h.obj, ?_, hc, h.dat, fun k d hd => (h.mem k d hd).fresh fun k hk => .inl (.inl hk), ⟨#[], 0, h.map, ⟨by simp, MapKept.stamped_empty 0, by simp⟩, by simp⟩, h.deb, h.gdeb, h.small, h.few, h.lim⟩;rcases h.row.2 with ⟨e, hn⟩ | ⟨k, cap, cur, e, hk, hg, hnc, hcm, hcs, ht⟩
 ·left;exact List.eq_nil_of_length_eq_zero (by rw [hl, hn, Nat.zero_mul])
 ·right;refine ⟨k, 0, ?_, h.off k ?_, ?_⟩
  ·simp only [Value.slice.injEq] at e;exact e.1
  ·unfold FN.own;rw [e];rfl
  ·rcases hr with hr | ⟨g, o, e2, hr⟩
   ·rw [hr];intro j v hv;simp at hv
   ·simp only [Value.slice.injEq] at e;rw [e.1] at e2;cases e2
    exact hr
theorem NumAt.go {S S' T : Nat -> Prop} {w w' : World} {fb L : Nat} {F : FN} (h : NumAt S w fb F L) (ht : Turned T w w') (hT : ∀ k, T k -> k < w.heap.size -> S k /\ k ≠ F.mb /\ k ≠ fb) (hm : S' F.mb) (hf : S' fb) (hS : ∀ k, S' k -> S k \/ w.heap.size <= k) (hold : ∀ k, S' k -> k < w'.heap.size) : NumAt S' w' fb F L := by
 have ht2 : Turned (fun k => T k /\ k < w.heap.size) w w' := ⟨ht.os, ht.tape, ht.output, ht.size, fun k hk hn => ht.block k hk fun hb => hn ⟨hb, hk⟩⟩;have hTS : ∀ k, (T k /\ k < w.heap.size) -> S k := fun k hk => (hT k hk.1 hk.2).1;have hg : 0 < w.heap.size := World.block_lt_of_cell? w _ (h.deb 0 (by decide));refine ⟨hold, hm, hf, h.ne, ht2.obj h.obj fun hk => (hT fb hk.1 hk.2).2.2 rfl, ownsRow_turned h.row ht2 fun k hk hT' => h.off k hk (hTS k hT'), fun k hk hS' => ?_, h.dat, fun k d hd => ?_, ?_, h.deb.turned ht2 fun hg => h.gdeb (hTS _ hg), fun hg' => ?_, h.gown, h.small, h.few, h.lim⟩
 ·exact (hS k hS').elim (h.off k hk) fun hl => by have := own_lt h.row hk; omega
 ·have h1 : NodeM (fun j => S j \/ F.own j) w' fb F.nds d := (h.mem k d hd).turned ht2 fun k hk => .inl (hTS k hk)
  have h2 : NodeM (fun j => (S j \/ F.own j) \/ (S' j \/ F.own j)) w fb F.nds d := (h.mem k d hd).fresh fun k hk => by
   rcases hk with hk | hk | hk
   ·exact .inl hk
   ·exact (hS k hk).imp .inl id
   ·exact .inl (.inr hk)
  exact (h2.turned ht2 fun k hk => .inl (.inl (hTS k hk))).fresh fun k hk => .inl (.inr hk)
 ·exact (ht2.block F.mb (lts h.map) fun hk => (hT F.mb hk.1 hk.2).2.1 rfl).trans h.map
 ·exact (hS _ hg').elim h.gdeb fun hk => by omega
theorem NumAt.below {S : Nat -> Prop} {w w' : World} {fb L : Nat} {F : FN} (h : NumAt S w fb F L) (hb : Below w.heap.size w w') : NumAt S w' fb F L :=
 h.go (T := fun _ => False) (Turned.of_below hb) (fun _k hk => hk.elim) h.sm h.sf (fun _ hk => .inl hk) fun k hk => Nat.lt_of_lt_of_le (h.old k hk) hb.size
theorem NumAt.pr {S : Nat -> Prop} {w W : World} {fb L : Nat} {F : FN} (h : NumAt S w fb F L) (n : Nat) (hb : Below w.heap.size w W) (hs : w.heap.size + n <= W.heap.size) : NumAt (Pr S w n) W fb F L :=
 h.go (T := fun _ => False) (Turned.of_below hb) (fun _k hk => hk.elim) (.inl h.sm) (.inl h.sf) (fun _k hk => hk.imp_right fun h => h.1) (fun _k hk => Pr.old h.old hs hk)
theorem NumAt.weaken {S S' : Nat -> Prop} {w : World} {fb L : Nat} {F : FN} (h : NumAt S w fb F L) (hm : S' F.mb) (hf : S' fb) (hS : ∀ k, S' k -> S k) : NumAt S' w fb F L :=
 h.go (T := fun _ => False) (Turned.refl _ w) (fun _k hk => hk.elim) hm hf (fun k hk => .inl (hS k hk)) fun k hk => h.old k (hS k hk)
set_option maxRecDepth 100000 in
theorem info_nd : (Tryz.prog.info? 106).map (fun i => (i.zero, i.size, i.bytes)) = some (some (.agg #[.int .i64 0, .int .u64 0, .int .u64 0, .int .u64 0, .int .u64 0, .int .i64 0, .int .i64 0, .int .i64 0, .slice none 0 0, .slice none 0 0, .int .u8 0, .bool false, .nilFunc]), 13, 128) := by kernel_rfl
theorem run_append_big {w : World} {st e : TypeId} {sz by_ base n : Nat} {v : Value} {vs : List Value} (hu : Tryz.prog.underlying st = some (.slice e)) (E : ∃ i z, Tryz.prog.info? e = some i /\ i.zero = some z /\ i.size = sz /\ i.bytes = by_ /\ z.cells.size = sz) (h0 : 0 < sz) (hby : by_ <= 1024) (hown : w.ownsRow base e sz v n vs) (g o m c : Nat) (us : List Value) (hr : w.rangeAt g o us) (hlen : us.length = m * sz)
  (h1 : ∀ u ∈ us, u.oneCell' = true) (hm : 0 < m) (hn : n + m <= 1073741824) (hbase : base <= w.heap.size) :
  ∃ v' w', (Builtin.append_ #[st, st] st #[v, .slice (some ⟨g, o, none⟩) m c]).run Tryz.prog w = .ok v' w' /\ w'.ownsRow base e sz v' (n + m) (vs ++ us) /\ w.grownBy w' v.ownBlock /\ (∀ k, v'.ownBlock = some k -> v.ownBlock = some k \/ w.heap.size <= k) := by
 obtain ⟨i, z, hi, hz, hsz, hby', hzs⟩ := E
 obtain ⟨gg, cc, w', hap, hown', hgrow, hwh, _⟩ := run_append_lies (P := Tryz.prog) w st st base e i z sz by_ hu hi hz hsz hby' hzs h0 v n vs hown ⟨g, o, none⟩ m c us hlen
  (fun j u hu => by rw [Addr.add_mid]; exact hr j u hu) h1 hm (by unfold maxLen; omega) (by exact Nat.le_trans (Nat.mul_le_mul_left _ hby) (by omega)) hbase _ rfl
 refine ⟨_, w', hap, hown', hgrow, fun k hk => ?_⟩;have e : some gg = some k := hk;injection e with e;subst e;rcases hwh with hwh | hwh
 ·exact .inl hwh
 ·exact .inr (by rw [hwh]; exact nlr _)
def FN.with' (F : FN) (A : Option Addr) (c : Nat) (l : List ND) : FN := { F with A := A, c := c, nds := F.nds ++ l }
theorem oneCell_nd {d : ND} (hf : d.fn.oneCell' = true) : ∀ u ∈ d.cells, u.oneCell' = true := by
 intro v hv;simp only [ND.cells, List.mem_cons, List.not_mem_nil, or_false] at hv;rcases hv with rfl | rfl | rfl | rfl | rfl | rfl | rfl | rfl | rfl | rfl | rfl | rfl | rfl <;> first | rfl | exact hf
theorem obj_frozen {w : World} {b : Nat} {cs : Array Value} {T : TypeId} (hb : w.heap[b]? = some (.cells cs T (0, 0))) (j : Nat) : w.frozen? ⟨b, j, none⟩ = false := by simp [World.frozen?, hb]
theorem NumAt.push {S : Nat -> Prop} {w : World} {fb L : Nat} {F : FN} (h : NumAt S w fb F L) {d : ND} (hf : d.fn.oneCell' = true) (hp : NodeP (F.nds ++ [d]) F.nds.length d) (hm : NodeM (fun j => S j \/ F.own j) w fb F.nds d) (hfew : F.nds.length + 1 <= 100000) {W : World} (hW : Below w.heap.size w W) {g : Nat} (hr : W.rangeAt g 0 d.cells) :
  ∃ A' c' w', (Builtin.append_ #[98, 98] 98 #[.slice F.A F.nds.length F.c, .slice (some ⟨g, 0, none⟩) 1 1]).run Tryz.prog W = .ok (.slice A' (F.nds.length + 1) c') w' ∧
   w'.heap[fb]? = some (.cells #[.string F.s, .bool F.b, .int .i64 (L : Int), .slice F.A F.nds.length F.c, .map (some F.mb)] 100 (0, 0)) /\ Turned F.own w w' ∧
   NumAt S (w'.setCell ⟨fb, 3, none⟩ (.slice A' (F.nds.length + 1) c')) fb (F.with' A' c' [d]) L /\ Turned (fun k => k = fb \/ F.own k) w (w'.setCell ⟨fb, 3, none⟩ (.slice A' (F.nds.length + 1) c')) /\ (∀ k, (F.with' A' c' [d]).own k -> F.own k \/ w.heap.size <= k) := by
 obtain ⟨i, hi, hz, hs, hb⟩ := info_parts info_nd;have hrow : W.ownsRow 0 106 13 (.slice F.A F.nds.length F.c) F.nds.length (ndsV F.nds) := ownsRow_turned (S := fun _ => False) h.row (Turned.of_below hW) fun _ _ hf => hf;obtain ⟨v', w', hap, hown, hgr, hk⟩ := run_append_big Tryz.underlying98 ⟨i, _, hi, hz, hs, hb, rfl⟩ (by omega) (by omega) hrow g 0 1 1 d.cells hr rfl (oneCell_nd hf) (by omega) (by have := h.few; omega) (Nat.zero_le _);obtain ⟨A', c', e, hc, _, _⟩ := own_form hown;subst e;have hT1 : Turned F.own W w' := Turned.of_grown (S := F.own) hgr fun k hk => hk;have hT : Turned F.own w w' := (Turned.of_below (S := F.own) hW).trans hT1 fun _ _ h => h;have hfb : ¬ F.own fb := fun ho => h.off fb ho h.sf;have hmb : ¬ F.own F.mb := fun ho => h.off F.mb ho h.sm;have hobj := hT.obj h.obj hfb;have hset := set_obj hobj 3 (.slice A' (F.nds.length + 1) c');have hT2 : Turned (· = fb) w' (w'.setCell ⟨fb, 3, none⟩ (.slice A' (F.nds.length + 1) c')) := (Turned.refl (· = fb) w').put' rfl 3 _;have hT3 : Turned (fun k => k = fb \/ F.own k) w (w'.setCell ⟨fb, 3, none⟩ (.slice A' (F.nds.length + 1) c')) := (turned_mono hT fun k hk => .inr hk).trans hT2 fun k _ hk => .inl hk
 have hown' : ∀ k, (F.with' A' c' [d]).own k -> F.own k \/ w.heap.size <= k := fun k ho => by
  have : (Value.slice A' (F.nds.length + 1) c').ownBlock = some k := by
   have h1 : (Value.slice A' (F.nds ++ [d]).length c').ownBlock = some k := ho;rw [List.length_append] at h1;exact h1
  exact (hk k this).imp_right fun h => Nat.le_trans hW.size h
 have hnl : (F.nds ++ [d]).length = F.nds.length + 1 := (by simp);have hg : 0 < w.heap.size := World.block_lt_of_cell? w _ (h.deb 0 (by decide));have hoffS : ∀ k, S k -> ¬ F.own k := fun k hk ho => h.off k ho hk
 have key : ∀ {d' : ND}, NodeM (fun j => S j \/ F.own j) w fb F.nds d' -> NodeM (fun j => S j \/ (F.with' A' c' [d]).own j) (w'.setCell ⟨fb, 3, none⟩ (.slice A' (F.nds.length + 1) c')) fb (F.nds ++ [d]) d' := fun {d'} hn => by
  have h1 : NodeM (fun j => (S j \/ F.own j) \/ (S j \/ (F.with' A' c' [d]).own j)) w fb F.nds d' := hn.fresh fun k hk => by
   rcases hk with hk | hk | hk
   ·exact .inl hk
   ·exact .inl (.inl hk)
   ·exact (hown' k hk).imp .inr id
  have h2 := h1.turned hT3 fun k hk => by
   rcases hk with hk | hk
   ·rw [hk]; exact .inl (.inl h.sf)
   ·exact .inl (.inr hk)
  exact (h2.fresh fun k hk => .inl (.inr hk)).ext [d]
 refine ⟨A', c', w', hap, hobj, hT, ⟨fun k hk => Nat.lt_of_lt_of_le (h.old k hk) hT3.size, h.sm, h.sf, h.ne, ?_, ?_, fun k hk hS => ?_, fun k d' hd' => ?_, fun k d' hd' => ?_, ?_, h.deb.turned hT3 fun hh => ?_, h.gdeb, fun hh => ?_, h.small, ?_, h.lim⟩, hT3, hown'⟩
 ·rw [hset];show _ = some (Obj.cells #[.string F.s, .bool F.b, .int .i64 (L : Int), .slice A' (F.nds ++ [d]).length c', .map (some F.mb)] _ _);rw [hnl];rfl
 ·show World.ownsRow _ 0 _ 13 (.slice A' (F.nds ++ [d]).length c') (F.nds ++ [d]).length (ndsV (F.nds ++ [d]));rw [hnl, ndsV_append, show ndsV [d] = d.cells by simp [ndsV]];refine ownsRow_turned hown hT2 fun k hk' e => ?_;subst e;rcases hk _ hk' with h1 | h1
  ·exact hfb h1
  ·have := lts h.obj;have := hW.size;omega
 ·rcases hown' k hk with h1 | h1
  ·exact h.off k h1 hS
  ·have := h.old k hS;omega
 ·show NodeP (F.nds ++ [d]) k d';by_cases hlt : k < F.nds.length
  ·have hd2 : F.nds[k]? = some d' := by
    have h1 : (F.nds ++ [d])[k]? = some d' := hd';rw [List.getElem?_append_left hlt] at h1;exact h1
   exact (h.dat k d' hd2).ext [d]
  ·have h1 : (F.nds ++ [d])[k]? = some d' := hd';have hl := (List.getElem?_eq_some_iff.1 h1).1;rw [hnl] at hl;have : k = F.nds.length := (by omega);subst this;rw [List.getElem?_append_right (nlr _), Nat.sub_self] at h1;cases h1
   exact hp
 ·by_cases hlt : k < F.nds.length
  ·have hd2 : F.nds[k]? = some d' := by
    have h1 : (F.nds ++ [d])[k]? = some d' := hd';rw [List.getElem?_append_left hlt] at h1;exact h1
   exact key (h.mem k d' hd2)
  ·have h1 : (F.nds ++ [d])[k]? = some d' := hd';have hl := (List.getElem?_eq_some_iff.1 h1).1;rw [hnl] at hl;have : k = F.nds.length := (by omega);subst this;rw [List.getElem?_append_right (nlr _), Nat.sub_self] at h1;cases h1
   exact key hm
 ·exact hT3.obj h.map fun hk => hk.elim (fun e => h.ne e.symm) hmb
 ·rcases hh with hh | hh
  ·exact h.gdeb (by rw [hh]; exact h.sf)
  ·exact h.gown hh
 ·exact (hown' _ hh).elim h.gown fun hk => by omega
 ·show (F.nds ++ [d]).length <= 100000;rw [hnl];exact hfew
open Go.RowKit Go.Deep Go.Sort
structure NodeQ (nds : List ND) (d : ND) : Prop where
 kind : d.x.kind = d.t.kind
 set : d.x.set = d.t.set
 lo : d.x.lo = d.t.lo
 hi : d.x.hi = d.t.hi
 num : d.x.num = d.t.num
 len : d.ks.length = (kidsOf d.t).length
 kid : ∀ (j q : Nat), d.ks[j]? = some q -> ∃ d', nds[q]? = some d' /\ (kidsOf d.t)[j]? = some d'.t
 cap : d.ks.length <= d.kc
 many : d.ks.length <= 100000
def U8C (n : Nat) (w : World) (e : Ending) (w' : World) : Prop := e = .returned (.int .u8 (n : Int)) /\ Below w.heap.size w w'
theorem or_e : ∀ a b : Fin 16, bits .or .u8 ((a.val : Nat) : Int) ((b.val : Nat) : Int) = ((a.val ||| b.val : Nat) : Int) := by decide
theorem and_e : ∀ a b : Fin 16, bits .and .u8 ((a.val : Nat) : Int) ((b.val : Nat) : Int) = ((a.val &&& b.val : Nat) : Int) := by decide
theorem orN_snoc (es : List Nat) (e : Nat) : orN (es ++ [e]) = orN es ||| e := by
 induction es with
 | nil => simp [orN]
 | cons a es ih => simp only [List.cons_append, orN, ih, Nat.or_assoc]
theorem andN_snoc (es : List Nat) (e : Nat) (he : e < 16) : andN (es ++ [e]) = andN es &&& e := by
 induction es with
 | nil =>
  have h : ∀ e : Fin 16, e.val &&& 15 = 15 &&& e.val := (by decide);simp only [List.nil_append, andN];exact h ⟨e, he⟩
 | cons a es ih => simp only [List.cons_append, andN, ih, Nat.and_assoc]
theorem orN_lt : ∀ {es : List Nat}, (∀ e ∈ es, e < 16) -> orN es < 16
 | [], _ => by decide
 | e :: es, h => (small_or e (h e (List.mem_cons_self ..)) _ (orN_lt fun a ha => h a (List.mem_cons_of_mem _ ha))).1
theorem andN_lt : ∀ {es : List Nat}, (∀ e ∈ es, e < 16) -> andN es < 16
 | [], _ => by decide
 | e :: es, h => (small_and e (h e (List.mem_cons_self ..)) _ (andN_lt fun a ha => h a (List.mem_cons_of_mem _ ha))).1
theorem take_snoc {α : Type} {l : List α} {i : Nat} {a : α} (h : l[i]? = some a) : l.take (i + 1) = l.take i ++ [a] := by rw [List.take_add_one, h]; rfl
structure KidC (w : World) (F : FN) (d : ND) (i q : Nat) (d' : ND) : Prop where
 kq : d.ks[i]? = some q
 nd : F.nds[q]? = some d'
 tk : (kidsOf d.t)[i]? = some d'.t
 lt : q < F.nds.length
 kc : ∀ V, Below w.heap.size w V -> ∃ g o, d.kA = some ⟨g, o, none⟩ /\ V.cell? ⟨g, o + i, none⟩ = some (.int .i64 (q : Int)) /\ g < V.heap.size
 nc : ∀ V, Below w.heap.size w V -> ∃ g o, F.A = some ⟨g, o, none⟩ /\ g < V.heap.size /\ ∀ (j : Nat) (v : Value), d'.cells[j]? = some v -> V.cell? ⟨g, o + q * 13 + j, none⟩ = some v
theorem kid_c {S : Nat -> Prop} {w : World} {fb L : Nat} {F : FN} (h : FindAt S w fb F L) {d : ND} (hq : NodeQ F.nds d) (hk : OffAt S w d.kA (intsV d.ks)) {i : Nat} (hi : i < d.ks.length) : ∃ q d', KidC w F d i q d' := by
 obtain ⟨q, hkq⟩ : ∃ q, d.ks[i]? = some q := ⟨d.ks[i]'hi, List.getElem?_eq_getElem _⟩;obtain ⟨d', h1, h2⟩ := hq.kid i q hkq;refine ⟨q, d', hkq, h1, h2, (List.getElem?_eq_some_iff.1 h1).1, fun V hV => ?_, fun V hV => ?_⟩
 ·obtain ⟨g, o, e, _, hc⟩ := (hk.stays hV).cell (intsV_at hkq);exact ⟨g, o, e, hc, World.block_lt_of_cell? _ _ hc⟩
 ·obtain ⟨g, o, e, hl, _, hc⟩ := (h.below hV).cell h1;exact ⟨g, o, e, hl, hc⟩
theorem empL_at {ts : List PN} {i : Nat} {t : PN} (h : ts[i]? = some t) : (empL ts)[i]? = some (empT t) := by rw [empL_eq, List.getElem?_map, h]; rfl
theorem empT_lt (t : PN) : empT t < 16 := (emp_T [] true t).lt
theorem empL_lt (ts : List PN) : ∀ e ∈ empL ts, e < 16 := by
 intro e he;rw [empL_eq] at he;obtain ⟨t, _, rfl⟩ := List.mem_map.1 he;exact empT_lt t
set_option maxRecDepth 100000 in
theorem emptyInOne_is {S : Nat -> Prop} {w : World} {fb L : Nat} {F : FN} (h : FindAt S w fb F L) {d : ND} (hq : NodeQ F.nds d) (hk : OffAt S w d.kA (intsV d.ks)) : Calls Tryz.prog 66 #[ptrV fb, .agg d.bare] w (U8C (orN (empL (kidsOf d.t))) w) := by
 have HK := lh fun (i : Nat) (hi : i < d.ks.length) => kid_c h hq hk hi;have HF3 := lh fun (V : World) (hV : Below w.heap.size w V) => (h.below hV).f3;have HD := lh fun (q : Nat) (d' : ND) (hd : F.nds[q]? = some d') => (h.dat q d' hd).emp;have HL := lh hq.len;have hmany := hq.many;have hfb := lts h.obj;unfold ND.bare;obtain ⟨n, hn⟩ : ∃ n, n = F.nds.length := ⟨_, rfl⟩;obtain ⟨t, x, kA, kc, ks, e, g, fn⟩ := d;simp only at HK HL hmany ⊢;obtain ⟨nk, hnk⟩ : ∃ n, n = ks.length := ⟨_, rfl⟩;rw [<- hnk] at HK HL hmany ⊢;rw [<- hn] at HF3;have HN := lh (aI hn hnk);clear hn hnk hk hq h;go_enter Tryz.func66, Tryz.ntmps66;go_upto_region 3 with fail;have HB0 := lh (bW w (.cells #[.int .i64 x.kind, .int .u64 (x.set 0), .int .u64 (x.set 1), .int .u64 (x.set 2), .int .u64 (x.set 3), .int .i64 x.lo, .int .i64 x.hi, .int .i64 x.num, .slice x.A x.n x.c, .slice kA nk kc, .int .u8 e, .bool g, .nilFunc] 106));go_loopw [5, 7, 11] (fun sv _ iv wr => ∃ (i s : Nat), iv = .int .i64 (i : Int) /\ sv = .int .u8 (s : Int) /\ i <= nk /\ Hid (s = orN ((empL (kidsOf t)).take i) /\ Below w.heap.size w wr)) (fun _ _ iv _ => nk - (intOf iv).toNat)
 case atStart => exact ⟨0, 0, rfl, rfl, Nat.zero_le _, lh ⟨rfl, HB0.out⟩⟩
 case round =>
  obtain ⟨i, s, rfl, rfl, hin, HY⟩ := hrel;by_cases hlt : i < nk
  ·obtain ⟨q, d', hkc⟩ := HK.out i hlt;obtain ⟨gk, ok, hkA, hc, hgk⟩ := hkc.kc wr HY.out.2;obtain ⟨gn, on, hA, hgn, hcn⟩ := hkc.nc wr HY.out.2;have hc10 := hcn 10 (.int .u8 (d'.e : Int)) rfl;have hf3 := HF3.out wr HY.out.2;rw [hA] at hf3;have hqlt := hkc.lt;rw [<- HN.out.1] at hqlt;have hq0 : (0 : Int) <= (q : Int) := (by omega);have hqI : (q : Int) < (n : Int) := (by omega);have hs16 : s < 16 := (by rw [HY.out.1]; exact orN_lt fun a ha => empL_lt _ a (List.mem_of_mem_take ha));have hde := HD.out q d' hkc.nd;have he16 : d'.e < 16 := (by rw [hde]; exact empT_lt _);obtain ⟨s2, hs2⟩ : ∃ s2, s2 = s ||| d'.e := ⟨_, rfl⟩;have hor : bits .or .u8 (s : Int) (d'.e : Int) = (s2 : Int) := (by rw [hs2]; exact or_e ⟨s, hs16⟩ ⟨d'.e, he16⟩);have HS2 := lh (show s2 = orN ((empL (kidsOf t)).take (i + 1)) by rw [take_snoc (empL_at hkc.tk), orN_snoc, <- HY.out.1, hs2, hde]);have hiI : (i : Int) < (nk : Int) := (by omega);have hi0 : (0 : Int) <= (i : Int) := (by omega);have hib : i < 1099511627776 := (by omega);subst hkA;clear hkc hcn hde hs2 hs16 he16 hA;go_wp2_with fail;go_roundw
   case rel => exact ⟨i + 1, s2, by go_num, rfl, by omega, lh ⟨HS2.out, HY.out.2⟩⟩
   case measure =>
    show nk - (((i : Int) + 1).toNat) < nk - (i : Int).toNat;omega
  ·have hiI : ¬ (i : Int) < (nk : Int) := (by omega)
   have HP := lh (show U8C (orN (empL (kidsOf t))) w (.returned (.int .u8 (s : Int))) wr from ⟨by
    have h1 := HY.out.1;rw [List.take_of_length_le (by rw [empL_eq, List.length_map, <- HL.out]; omega)] at h1
    rw [h1], HY.out.2⟩)
   clear hlt hin;go_wp2_with fail;refine bodyPost_ret (v := .int .u8 (s : Int)) (by simp [results, Tryz.results66, go_sem]) rfl HP.out
set_option maxRecDepth 100000 in
theorem emptyInAll_is {S : Nat -> Prop} {w : World} {fb L : Nat} {F : FN} (h : FindAt S w fb F L) {d : ND} (hq : NodeQ F.nds d) (hk : OffAt S w d.kA (intsV d.ks)) : Calls Tryz.prog 67 #[ptrV fb, .agg d.bare] w (U8C (andN (empL (kidsOf d.t))) w) := by
 have HK := lh fun (i : Nat) (hi : i < d.ks.length) => kid_c h hq hk hi;have HF3 := lh fun (V : World) (hV : Below w.heap.size w V) => (h.below hV).f3;have HD := lh fun (q : Nat) (d' : ND) (hd : F.nds[q]? = some d') => (h.dat q d' hd).emp;have HL := lh hq.len;have hmany := hq.many;have hfb := lts h.obj;unfold ND.bare;obtain ⟨n, hn⟩ : ∃ n, n = F.nds.length := ⟨_, rfl⟩;obtain ⟨t, x, kA, kc, ks, e, g, fn⟩ := d;simp only at HK HL hmany ⊢;obtain ⟨nk, hnk⟩ : ∃ n, n = ks.length := ⟨_, rfl⟩;rw [<- hnk] at HK HL hmany ⊢;rw [<- hn] at HF3;have HN := lh (aI hn hnk);clear hn hnk hk hq h;go_enter Tryz.func67, Tryz.ntmps67;go_upto_region 3 with fail;have HB0 := lh (bW w (.cells #[.int .i64 x.kind, .int .u64 (x.set 0), .int .u64 (x.set 1), .int .u64 (x.set 2), .int .u64 (x.set 3), .int .i64 x.lo, .int .i64 x.hi, .int .i64 x.num, .slice x.A x.n x.c, .slice kA nk kc, .int .u8 e, .bool g, .nilFunc] 106));go_loopw [5, 7, 11] (fun sv _ iv wr => ∃ (i s : Nat), iv = .int .i64 (i : Int) /\ sv = .int .u8 (s : Int) /\ i <= nk /\ Hid (s = andN ((empL (kidsOf t)).take i) /\ Below w.heap.size w wr)) (fun _ _ iv _ => nk - (intOf iv).toNat)
 case atStart => exact ⟨0, 15, rfl, rfl, Nat.zero_le _, lh ⟨rfl, HB0.out⟩⟩
 case round =>
  obtain ⟨i, s, rfl, rfl, hin, HY⟩ := hrel;by_cases hlt : i < nk
  ·obtain ⟨q, d', hkc⟩ := HK.out i hlt;obtain ⟨gk, ok, hkA, hc, hgk⟩ := hkc.kc wr HY.out.2;obtain ⟨gn, on, hA, hgn, hcn⟩ := hkc.nc wr HY.out.2;have hc10 := hcn 10 (.int .u8 (d'.e : Int)) rfl;have hf3 := HF3.out wr HY.out.2;rw [hA] at hf3;have hqlt := hkc.lt;rw [<- HN.out.1] at hqlt;have hq0 : (0 : Int) <= (q : Int) := (by omega);have hqI : (q : Int) < (n : Int) := (by omega);have hs16 : s < 16 := (by rw [HY.out.1]; exact andN_lt fun a ha => empL_lt _ a (List.mem_of_mem_take ha));have hde := HD.out q d' hkc.nd;have he16 : d'.e < 16 := (by rw [hde]; exact empT_lt _);obtain ⟨s2, hs2⟩ : ∃ s2, s2 = s &&& d'.e := ⟨_, rfl⟩;have hor : bits .and .u8 (s : Int) (d'.e : Int) = (s2 : Int) := (by rw [hs2]; exact and_e ⟨s, hs16⟩ ⟨d'.e, he16⟩);have HS2 := lh (show s2 = andN ((empL (kidsOf t)).take (i + 1)) by rw [take_snoc (empL_at hkc.tk), andN_snoc _ _ (empT_lt _), <- HY.out.1, hs2, hde]);have hiI : (i : Int) < (nk : Int) := (by omega);have hi0 : (0 : Int) <= (i : Int) := (by omega);have hib : i < 1099511627776 := (by omega);subst hkA;clear hkc hcn hde hs2 hs16 he16 hA;go_wp2_with fail;go_roundw
   case rel => exact ⟨i + 1, s2, by go_num, rfl, by omega, lh ⟨HS2.out, HY.out.2⟩⟩
   case measure =>
    show nk - (((i : Int) + 1).toNat) < nk - (i : Int).toNat;omega
  ·have hiI : ¬ (i : Int) < (nk : Int) := (by omega)
   have HP := lh (show U8C (andN (empL (kidsOf t))) w (.returned (.int .u8 (s : Int))) wr from ⟨by
    have h1 := HY.out.1;rw [List.take_of_length_le (by rw [empL_eq, List.length_map, <- HL.out]; omega)] at h1
    rw [h1], HY.out.2⟩)
   clear hlt hin;go_wp2_with fail;refine bodyPost_ret (v := .int .u8 (s : Int)) (by simp [results, Tryz.results67, go_sem]) rfl HP.out
set_option maxRecDepth 100000 in
theorem hasSpan_is (num : Int) (w : World) : Calls Tryz.prog 68 #[.int .i64 num] w (BoolC (spanB num) w) := by
 have hs : spanB num = (decide (1 <= num) && decide (num < 10)) := rfl;unfold BoolC;by_cases h1 : 1 <= num
 ·by_cases h2 : num < 10
  ·rw [hs, dqt h1, dqt h2];clear hs;go_enter Tryz.func68, Tryz.ntmps68;go_wp2_with fail;go_ret;exact ⟨rfl, Below.refl _ w⟩
  ·rw [hs, dqt h1, dqf h2];clear hs;go_enter Tryz.func68, Tryz.ntmps68;go_wp2_with fail;go_ret;exact ⟨rfl, Below.refl _ w⟩
 ·rw [hs, dqf h1];clear hs;go_enter Tryz.func68, Tryz.ntmps68;go_wp2_with fail;go_ret;exact ⟨rfl, Below.refl _ w⟩
set_option maxRecDepth 100000 in
theorem hasGroup_is {S : Nat -> Prop} {w : World} {fb L : Nat} {F : FN} (h : FindAt S w fb F L) {d : ND} (hq : NodeQ F.nds d) (hk : OffAt S w d.kA (intsV d.ks)) : Calls Tryz.prog 45 #[ptrV fb, .agg d.bare] w (BoolC (grpT d.t) w) := by
 have HK := lh fun (i : Nat) (hi : i < d.ks.length) => kid_c h hq hk hi;have HF3 := lh fun (V : World) (hV : Below w.heap.size w V) => (h.below hV).f3;have HD := lh fun (q : Nat) (d' : ND) (hd : F.nds[q]? = some d') => (h.dat q d' hd).grp;have HL := lh hq.len;have hmany := hq.many;have hfb := lts h.obj;have hgc := grp_cnt d.t;rw [<- hq.kind, <- hq.num] at hgc;unfold ND.bare;obtain ⟨n, hn⟩ : ∃ n, n = F.nds.length := ⟨_, rfl⟩;obtain ⟨t, x, kA, kc, ks, e, g, fn⟩ := d;simp only at HK HL hmany hgc ⊢;obtain ⟨nk, hnk⟩ : ∃ n, n = ks.length := ⟨_, rfl⟩;rw [<- hnk] at HK HL hmany ⊢;rw [<- hn] at HF3;have HN := lh (aI hn hnk);have HG := lh hgc;clear hn hnk hk hq h hgc;go_enter Tryz.func45, Tryz.ntmps45;go_upto_region 2 with fail;obtain ⟨W, hW⟩ : ∃ W, W = w.alloc (.cells #[.int .i64 x.kind, .int .u64 (x.set 0), .int .u64 (x.set 1), .int .u64 (x.set 2), .int .u64 (x.set 3), .int .i64 x.lo, .int .i64 x.hi, .int .i64 x.num, .slice x.A x.n x.c, .slice kA nk kc, .int .u8 e, .bool g, .nilFunc] 106) := ⟨_, rfl⟩;have HB0 := lh (show Below w.heap.size w W from by rw [hW]; exact bW w _);have HBX := lh fun (V : World) (hV : Below W.heap.size W V) => (show V.heap[w.heap.size]? = some (.cells #[.int .i64 x.kind, .int .u64 (x.set 0), .int .u64 (x.set 1), .int .u64 (x.set 2), .int .u64 (x.set 3), .int .i64 x.lo, .int .i64 x.hi, .int .i64 x.num, .slice x.A x.n x.c, .slice kA nk kc, .int .u8 e, .bool g, .nilFunc] 106 (0, 0)) from bobj hV (by rw [hW]; exact heap_alloc_new w _) (by rw [hW, World.size_alloc]; exact Nat.lt_succ_self _));rw [<- hW];clear hW;go_loopw [6, 10] (fun _ iv wr => ∃ (i : Nat), iv = .int .i64 (i : Int) /\ i <= nk /\ Hid (((kidsOf t).take i).any grpT = false /\ Below w.heap.size w wr /\ Below W.heap.size W wr)) (fun _ iv _ => nk - (intOf iv).toNat)
 case atStart => exact ⟨0, rfl, Nat.zero_le _, lh ⟨rfl, HB0.out, Below.refl _ _⟩⟩
 case round =>
  obtain ⟨i, rfl, hin, HY⟩ := hrel;by_cases hlt : i < nk
  ·obtain ⟨q, d', hkc⟩ := HK.out i hlt;obtain ⟨gk, ok, hkA, hc, hgk⟩ := hkc.kc wr HY.out.2.1;obtain ⟨gn, on, hA, hgn, hcn⟩ := hkc.nc wr HY.out.2.1;have hc11 := hcn 11 (.bool d'.g) rfl;have hf3 := HF3.out wr HY.out.2.1;rw [hA] at hf3;have hqlt := hkc.lt;rw [<- HN.out.1] at hqlt;have hq0 : (0 : Int) <= (q : Int) := (by omega);have hqI : (q : Int) < (n : Int) := (by omega);have hde := HD.out q d' hkc.nd;have hiI : (i : Int) < (nk : Int) := (by omega);have hi0 : (0 : Int) <= (i : Int) := (by omega);have hib : i < 1099511627776 := (by omega);have HT := lh hkc.tk;subst hkA;obtain ⟨g', hg'⟩ : ∃ b, b = d'.g := ⟨_, rfl⟩;rw [<- hg'] at hc11 hde;clear hkc hcn hA hg';cases g'
   ·have HS2 := lh (show ((kidsOf t).take (i + 1)).any grpT = false by rw [take_snoc HT.out, List.any_append, HY.out.1]; simp [<- hde]);clear hde;go_wp2_with fail;go_roundw
    case rel => exact ⟨i + 1, by go_num, by omega, lh ⟨HS2.out, HY.out.2⟩⟩
    case measure =>
     show nk - (((i : Int) + 1).toNat) < nk - (i : Int).toNat;omega
   ·have HP := lh (show BoolC (grpT t) w (.returned (.bool true)) wr from ⟨by
     rw [HG.out, show (kidsOf t).any grpT = true from List.any_eq_true.2 ⟨_, List.mem_of_getElem? HT.out, hde.symm⟩]
     rfl, HY.out.2.1⟩)
    clear hde;go_wp2_with fail;refine bodyPost_ret (v := .bool true) (by simp [results, Tryz.results45, go_sem]) rfl HP.out
  ·have hiI : ¬ (i : Int) < (nk : Int) := (by omega)
   have HAL := lh (show (kidsOf t).any grpT = false by
    have h1 := HY.out.1;rw [List.take_of_length_le (by rw [<- HL.out]; omega)] at h1
    exact h1)
   have hob := HBX.out wr HY.out.2.2;have c0 : wr.cell? ⟨w.heap.size, 0, none⟩ = some (.int .i64 x.kind) := (by rw [obc hob]; rfl);have c7 : wr.cell? ⟨w.heap.size, 7, none⟩ = some (.int .i64 x.num) := (by rw [obc hob]; rfl);have HSP := lh fun (V : World) => hasSpan_is x.num V;by_cases h5 : x.kind = 5
   ·have h5b : (x.kind == 5) = true := (by simpa using h5)
    have HP := lh fun (V : World) (hb : Below wr.heap.size wr V) => (show BoolC (grpT t) w (.returned (.bool (spanB x.num))) V from ⟨by
     rw [HG.out, HAL.out, dqt h5]
     rfl, HY.out.2.1.trans (hb.mono HY.out.2.1.size)⟩)
    clear hlt hin hob h5;go_wp2_with fail;go_at_call 68;refine (HSP.out _).mono ?_;rintro e w1 ⟨rfl, hb1⟩;have HQ := lh (HP.out w1 hb1);clear hb1;go_wp2_with fail;refine bodyPost_ret (v := .bool (spanB x.num)) (by simp [results, Tryz.results45, go_sem]) rfl HQ.out
   ·have h5b : (x.kind == 5) = false := (by simpa using h5)
    have HP := lh (show BoolC (grpT t) w (.returned (.bool false)) wr from ⟨by
     rw [HG.out, HAL.out, dqf h5]
     rfl, HY.out.2.1⟩)
    clear hlt hin hob h5;go_wp2_with fail;refine bodyPost_ret (v := .bool false) (by simp [results, Tryz.results45, go_sem]) rfl HP.out
open Go.RowKit Go.Deep Go.Sort
theorem bit0 (e : Fin 16) : bits .and .u8 ((e.val : Nat) : Int) 1 = (if e.val.testBit 0 = true then 1 else 0) := by
 revert e
 decide
def IntC (n : Nat) (w : World) (e : Ending) (w' : World) : Prop := e = .returned (.int .i64 (n : Int)) /\ Below w.heap.size w w'
set_option maxRecDepth 100000 in
theorem least_is {S : Nat -> Prop} {w : World} {fb L : Nat} {F : FN} (h : FindAt S w fb F L) {d d' : ND} {q : Nat} (hk : OffAt S w d.kA (intsV d.ks)) (hq : d.ks[0]? = some q) (hd : F.nds[q]? = some d') : Calls Tryz.prog 97 #[ptrV fb, .agg d.bare] w (IntC (leastOf d.x.lo d'.e) w) := by
 have hf3 := h.f3;obtain ⟨gn, on, hA, hgn, _, hcn⟩ := h.cell hd;have hc10 := hcn 10 (.int .u8 (d'.e : Int)) rfl;obtain ⟨gk, ok, hkA, hgk, hck⟩ := hk.cell (intsV_at hq);rw [Nat.add_zero] at hck;have hqlt := (List.getElem?_eq_some_iff.1 hd).1;have h0 : 0 < d.ks.length := (List.getElem?_eq_some_iff.1 hq).1;have hfb := lts h.obj;have hE : d'.e < 16 := (by rw [(h.dat q d' hd).emp]; exact empT_lt _);have hb := bit0 ⟨d'.e, hE⟩;simp only at hb;unfold ND.bare IntC;rw [hA] at hf3;obtain ⟨t, x, kA, kc, ks, e, g, fn⟩ := d;simp only at hkA hck hq h0 ⊢;subst hkA;obtain ⟨n, hn⟩ : ∃ n, n = F.nds.length := ⟨_, rfl⟩;obtain ⟨nk, hnk⟩ : ∃ n, n = ks.length := ⟨_, rfl⟩;rw [<- hn] at hf3 hqlt;rw [<- hnk] at h0 ⊢;have h0I : (0 : Int) < (nk : Int) := (by omega);have hq0 : (0 : Int) <= (q : Int) := (by omega);have hqI : (q : Int) < (n : Int) := (by omega);obtain ⟨lo, hlo⟩ : ∃ lo, lo = x.lo := ⟨_, rfl⟩;rw [<- hlo];by_cases hbt : d'.e.testBit 0 = true
 ·have hl : leastOf lo d'.e = 0 := (by unfold leastOf; rw [if_pos hbt]);rw [if_pos hbt] at hb;rw [hl];clear hn hnk h hk hq hd hcn hA hE hbt hl hlo;go_enter Tryz.func97, Tryz.ntmps97;go_wp2_with fail;go_quiet (fail);go_wp2_with fail;go_ret;exact ⟨rfl, (bW w _).trans (bD _ _ |>.mono (by rw [World.size_alloc]; omega))⟩
 ·obtain ⟨m, hm⟩ : ∃ m, m = lo.toNat := ⟨_, rfl⟩;have hl : leastOf lo d'.e = m := (by unfold leastOf; rw [if_neg hbt, hm]);have hmx : max lo 0 = (m : Int) := (by rw [hm]; omega);rw [if_neg hbt] at hb;rw [hl];clear hn hnk h hk hq hd hcn hA hE hbt hl hm hlo;go_enter Tryz.func97, Tryz.ntmps97;go_wp2_with fail;go_quiet (fail);go_wp2_with fail;go_ret;exact ⟨rfl, (bW w _).trans (bD _ _ |>.mono (by rw [World.size_alloc]; omega))⟩
def ptrOff (v : Value) : Nat := match v with
 | .pointer (some ⟨_, o, _⟩) => o
 | _ => 0
theorem spr_unfold (t : PN) : sprT t = (if t.kind = 5 then (match kidsOf t with | [] => false | q :: _ => sprT q) else decide (t.kind = 4) && decide (t.hi < 0) && (empT t).testBit 0) := by
 obtain ⟨k, S, lo, hi, num, ks⟩ := t;rw [emp_cnt];show _ = (if k = 5 then (match kidsK k ks with | [] => false | q :: _ => sprT q) else decide (k = 4) && decide (hi < 0) && (empK k lo (empL (kidsK k ks))).testBit 0)
 conv => lhs; unfold sprT
 by_cases h5 : k = 5
 ·subst h5;rw [if_pos rfl, if_pos rfl];cases ks with
  | nil =>
   show false = sprT nothing;unfold nothing sprT;simp
  | cons t ts => rfl
 ·rw [if_neg h5, if_neg h5]
theorem spr_grp {t q : PN} (h5 : t.kind = 5) (hq : (kidsOf t)[0]? = some q) : sprT t = sprT q := by
 rw [spr_unfold, if_pos h5];cases hk : kidsOf t with
 | nil => rw [hk] at hq; simp at hq
 | cons a l =>
  rw [hk] at hq;simp at hq;rw [hq]
theorem FindAt.grp0 {S : Nat -> Prop} {w : World} {fb L : Nat} {F : FN} (h : FindAt S w fb F L) {k : Nat} {d : ND} (hd : F.nds[k]? = some d) (h5 : d.x.kind = 5) : ∃ q d', d.ks[0]? = some q /\ q < k /\ F.nds[q]? = some d' /\ (kidsOf d.t)[0]? = some d'.t := by
 have hn := h.dat k d hd
 have hl : (kidsOf d.t).length = 1 := by
  have : d.t.kind = 5 := (by rw [<- hn.kind]; exact h5);unfold kidsOf kidsK;rw [if_neg (by omega), if_pos (.inr this)];rfl
 have h0 : 0 < d.ks.length := (by rw [hn.len, hl]; exact Nat.one_pos);obtain ⟨q, hq⟩ : ∃ q, d.ks[0]? = some q := ⟨d.ks[0]'h0, List.getElem?_eq_getElem _⟩;obtain ⟨h1, d', h2, h3⟩ := hn.kid 0 q hq;exact ⟨q, d', hq, h1, h2, h3⟩
set_option maxRecDepth 100000 in
set_option maxHeartbeats 1000000 in
theorem isSpread_is {S : Nat -> Prop} {w : World} {fb L : Nat} {F : FN} (h : FindAt S w fb F L) {k : Nat} {d : ND} (hd : F.nds[k]? = some d) : Calls Tryz.prog 98 #[ptrV fb, .int .i64 (k : Int)] w (BoolC (sprT d.t) w) := by
 obtain ⟨gn, on, hA, hgn, _, _⟩ := h.cell hd
 have HC := lh fun (V : World) (hV : Below w.heap.size w V) (q : Nat) (d' : ND) (hd' : F.nds[q]? = some d') => (show V.cell? ⟨fb, 3, none⟩ = some (.slice (some ⟨gn, on, none⟩) F.nds.length F.c) /\ fb < V.heap.size /\ gn < V.heap.size /\ (∀ (j : Nat) (v : Value), d'.cells[j]? = some v -> V.cell? ⟨gn, on + q * 13 + j, none⟩ = some v) /\ (d'.x.kind = 5 -> ∃ (q2 : Nat) (d2 : ND) (gk ok : Nat), d'.kA = some ⟨gk, ok, none⟩ /\ V.cell? ⟨gk, ok, none⟩ = some (.int .i64 (q2 : Int)) /\ gk < V.heap.size /\ 0 < d'.ks.length /\ q2 < q /\ q2 < F.nds.length /\ F.nds[q2]? = some d2 /\ sprT d'.t = sprT d2.t) by
  have hh := h.below hV;obtain ⟨g', o', hA', hl, _, hc⟩ := hh.cell hd';rw [hA] at hA';cases hA'
  refine ⟨by rw [hh.f3, hA], lts hh.obj, hl, hc, fun h5 => ?_⟩;obtain ⟨q2, d2, e1, e2, e3, e4⟩ := hh.grp0 hd' h5;obtain ⟨gk, ok, k1, k2, k3⟩ := (hh.mem q d' hd').kids.cell (intsV_at e1)
  exact ⟨q2, d2, gk, ok, k1, k3, k2, (List.getElem?_eq_some_iff.1 e1).1, e2, (List.getElem?_eq_some_iff.1 e3).1, e3, spr_grp (by rw [<- (hh.dat q d' hd').kind]; exact h5) e4⟩)
 have HS := lh fun (q : Nat) (d' : ND) (hd' : F.nds[q]? = some d') (h5 : d'.x.kind ≠ 5) => (show sprT d'.t = (decide (d'.x.kind = 4) && decide (d'.x.hi < 0) && d'.e.testBit 0) /\ d'.e < 16 by
  have hn := h.dat q d' hd';rw [spr_unfold, if_neg (by rw [<- hn.kind]; exact h5), hn.kind, hn.hi, hn.emp]
  exact ⟨rfl, empT_lt _⟩)
 have hklt := (List.getElem?_eq_some_iff.1 hd).1;have hfew := h.few;obtain ⟨c3, fbl, _, _, _⟩ := HC.out w (Below.refl _ _) k d hd;obtain ⟨n, hn⟩ : ∃ n, n = F.nds.length := ⟨_, rfl⟩;rw [<- hn] at HC c3 hklt hfew;have hk0 : (0 : Int) <= (k : Int) := (by omega);have hkI : (k : Int) < (n : Int) := (by omega);have HD := lh hd;clear hd hn h hA;go_enter Tryz.func98, Tryz.ntmps98;go_upto_region 2 with fail;go_loopw [5] (fun pv wr => ∃ (q : Nat) (d' : ND), pv = .pointer (some ⟨gn, on + q * 13, none⟩) /\ Hid (F.nds[q]? = some d' /\ sprT d'.t = sprT d.t /\ q < n /\ Below w.heap.size w wr)) (fun pv _ => ptrOff pv)
 case atStart => exact ⟨k, d, rfl, lh ⟨HD.out, rfl, hklt, Below.refl _ _⟩⟩
 case round =>
  obtain ⟨q, d', rfl, HY⟩ := hrel;obtain ⟨c3', fbl', gnl, hcn, h5all⟩ := HC.out wr HY.out.2.2.2 q d' HY.out.1;have k0 := hcn 0 (.int .i64 d'.x.kind) rfl;have k6 := hcn 6 (.int .i64 d'.x.hi) rfl;have k9 := hcn 9 (.slice d'.kA d'.ks.length d'.kc) rfl;have k10 := hcn 10 (.int .u8 (d'.e : Int)) rfl;rw [Nat.add_zero] at k0;clear hcn;obtain ⟨nk, hnk⟩ : ∃ n, n = d'.ks.length := ⟨_, rfl⟩;obtain ⟨kd, hkd⟩ : ∃ n, n = d'.x.kind := ⟨_, rfl⟩;obtain ⟨hv, hhv⟩ : ∃ n, n = d'.x.hi := ⟨_, rfl⟩;rw [<- hnk] at k9 h5all;rw [<- hkd] at k0 h5all;rw [<- hhv] at k6;by_cases h5 : kd = 5
  ·obtain ⟨q2, d2, gk, ok, e1, e2, e3, e4, e5, e6, e7, e8⟩ := h5all h5;rw [e1] at k9;have h5b : (kd == 5) = true := (by simpa using h5);have e4I : (0 : Int) < (nk : Int) := (by omega);have e6I : (q2 : Int) < (n : Int) := (by omega);have e60 : (0 : Int) <= (q2 : Int) := (by omega);have HM := lh (show ptrOff (.pointer (some ⟨gn, on + q2 * 13, none⟩)) < ptrOff (.pointer (some ⟨gn, on + q * 13, none⟩)) from (by show on + q2 * 13 < on + q * 13; omega));have HR := lh (show F.nds[q2]? = some d2 /\ sprT d2.t = sprT d.t /\ q2 < n from ⟨e7, by rw [<- e8, HY.out.2.1], e6⟩);have HYB := lh HY.out.2.2.2;clear h5all hnk hkd hhv e1 h5 e5 e7 e8 HY k10 k6;go_wp2_with fail;go_quiet (fail);go_wp2_with fail;go_roundw
   case rel => exact ⟨q2, d2, rfl, lh ⟨HR.out.1, HR.out.2.1, HR.out.2.2, HYB.out.trans ((bD _ _).mono HYB.out.size)⟩⟩
   case measure => exact HM.out
  ·have h5b : (kd == 5) = false := (by simpa using h5);obtain ⟨hs, hE⟩ := HS.out q d' HY.out.1 (by rw [<- hkd]; exact h5);rw [<- hkd, <- hhv, HY.out.2.1] at hs;have hb := bit0 ⟨d'.e, hE⟩;simp only at hb;have HP := lh fun (b : Bool) (e : b = sprT d.t) => (show BoolC (sprT d.t) w (.returned (.bool b)) wr from ⟨by rw [e], HY.out.2.2.2⟩);by_cases h4 : kd = 4
   ·have h4b : (kd == 4) = true := (by simpa using h4);by_cases h1 : hv < 0
    ·have h1b : decide (hv < 0) = true := dqt h1;rw [dqt h4, h1b] at hs;by_cases hbt : d'.e.testBit 0 = true
     ·rw [if_pos hbt] at hb;have HQ := lh (HP.out true (by rw [hs, hbt]; rfl));clear hs hbt hE h5all hnk hkd hhv h4 h5 HP;go_wp2_with fail;go_ret;exact HQ.out
     ·rw [if_neg hbt] at hb;have HQ := lh (HP.out false (by rw [hs, Bool.eq_false_iff.2 hbt]; rfl));clear hs hbt hE h5all hnk hkd hhv h4 h5 HP;go_wp2_with fail;go_ret;exact HQ.out
    ·have h1b : decide (hv < 0) = false := dqf h1;rw [dqt h4, h1b] at hs;have HQ := lh (HP.out false (by rw [hs]; rfl));clear hs hE h5all hnk hkd hhv h4 h5 HP hb;go_wp2_with fail;go_ret;exact HQ.out
   ·have h4b : (kd == 4) = false := (by simpa using h4);rw [dqf h4] at hs;have HQ := lh (HP.out false (by rw [hs]; rfl));clear hs hE h5all hnk hkd hhv h4 h5 HP hb;go_wp2_with fail;go_ret;exact HQ.out
end Go.Proofs.YtflkfleihlceeaaGreatDoor

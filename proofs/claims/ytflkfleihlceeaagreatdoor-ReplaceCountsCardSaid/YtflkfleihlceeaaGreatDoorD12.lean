import Derived.Test.YtflkfleihlceeaaGreatDoorD08
import Derived.Test.YtflkfleihlceeaaGreatDoorD10
import Derived.Test.YtflkfleihlceeaaGreatDoorD11
import Derived.Test.YtflkfleihlceeaaGreatDoorD04
import Derived.Deep.CutRange
/-
 The finder in memory: its nodes, their closures, what was kept. No condition.
-/
namespace Go.Proofs.YtflkfleihlceeaaGreatDoor
open Go.RowKit Go.Deep Go.Sort
structure FN where
 s : ByteArray
 b : Bool
 mb : Nat
 A : Option Addr
 c : Nat
 nds : List ND
def FN.T (F : FN) : List UInt8 := F.s.data.toList
def FN.N (F : FN) : Nat := F.s.size
def FN.rel (F : FN) (t : PN) : Rel := semT F.T F.b t
theorem FN.lenT (F : FN) : F.T.length = F.N := rfl
theorem FN.fit (F : FN) (t : PN) : FitR F.N (F.rel t) := by rw [<- F.lenT]; exact fit_T F.T F.b t
abbrev ptrV (b : Nat) : Value := .pointer (some ⟨b, 0, none⟩)
def BoxO (S : Nat -> Prop) (w : World) (b : Nat) (cs : Array Value) (t : TypeId) : Prop := w.heap[b]? = some (.cells cs t (0, 0)) /\ ¬ S b
theorem BoxO.turned {S T : Nat -> Prop} {w w' : World} {b : Nat} {cs : Array Value} {t : TypeId} (h : BoxO S w b cs t) (ht : Turned T w w') (hT : ∀ k, T k -> S k) : BoxO S w' b cs t := ⟨ht.obj h.1 fun hb => h.2 (hT b hb), h.2⟩
theorem BoxO.fresh {S S' : Nat -> Prop} {w : World} {b : Nat} {cs : Array Value} {t : TypeId} (h : BoxO S w b cs t) (hS : ∀ k, S' k -> S k \/ w.heap.size <= k) : BoxO S' w b cs t := ⟨h.1, fun hb => (hS b hb).elim h.2 fun hk => by have := lts h.1; omega⟩
def ND.bare (d : ND) : Array Value := #[.int .i64 d.x.kind, .int .u64 (d.x.set 0), .int .u64 (d.x.set 1), .int .u64 (d.x.set 2), .int .u64 (d.x.set 3), .int .i64 d.x.lo, .int .i64 d.x.hi, .int .i64 d.x.num, .slice d.x.A d.x.n d.x.c, .slice d.kA d.ks.length d.kc, .int .u8 d.e, .bool d.g, .nilFunc]
def setA (S : Nat -> Nat) : Array Value := #[.int .u64 (S 0), .int .u64 (S 1), .int .u64 (S 2), .int .u64 (S 3)]
abbrev funV (f : FuncId) (bs : Array Value) : Value := .func (.func f) #[] bs
def OneV (S : Nat -> Prop) (w : World) (fb : Nat) (T : Nat -> Nat) (v : Value) : Prop := ∃ b1 b2, v = funV 92 #[ptrV b1, ptrV b2] /\ BoxO S w b1 #[ptrV fb] 62 /\ BoxO S w b2 (setA T) 25
theorem OneV.turned {S T : Nat -> Prop} {w w' : World} {fb : Nat} {U : Nat -> Nat} {v : Value} (h : OneV S w fb U v) (ht : Turned T w w') (hT : ∀ k, T k -> S k) : OneV S w' fb U v := by
 obtain ⟨b1, b2, e, h1, h2⟩ := h;exact ⟨b1, b2, e, h1.turned ht hT, h2.turned ht hT⟩
theorem OneV.fresh {S S' : Nat -> Prop} {w : World} {fb : Nat} {U : Nat -> Nat} {v : Value} (h : OneV S w fb U v) (hS : ∀ k, S' k -> S k \/ w.heap.size <= k) : OneV S' w fb U v := by
 obtain ⟨b1, b2, e, h1, h2⟩ := h;exact ⟨b1, b2, e, h1.fresh hS, h2.fresh hS⟩
inductive StepV (S : Nat -> Prop) (w : World) (fb : Nat) (nds : List ND) : Nat -> Value -> Prop
 | one {k : Nat} {d : ND} {v : Value} (hd : nds[k]? = some d) (hk : d.x.kind = 1) (hv : OneV S w fb d.x.set v) : StepV S w fb nds k v
 | grp {k q : Nat} {d : ND} {v : Value} (hd : nds[k]? = some d) (hk : d.x.kind = 5) (hq : d.ks[0]? = some q) (hv : StepV S w fb nds q v) : StepV S w fb nds k v
 | oth {k b1 b2 : Nat} {d : ND} (hd : nds[k]? = some d) (h1 : d.x.kind ≠ 1) (h5 : d.x.kind ≠ 5) (hb1 : BoxO S w b1 #[ptrV fb] 62) (hb2 : BoxO S w b2 #[.int .i64 (k : Int)] 3) : StepV S w fb nds k (funV 118 #[ptrV b1, ptrV b2])
theorem StepV.turned {S T : Nat -> Prop} {w w' : World} {fb : Nat} {nds : List ND} {k : Nat} {v : Value} (ht : Turned T w w') (hT : ∀ k, T k -> S k) (h : StepV S w fb nds k v) : StepV S w' fb nds k v := by
 induction h with
 | one hd hk hv => exact .one hd hk (hv.turned ht hT)
 | grp hd hk hq _ ih => exact .grp hd hk hq ih
 | oth hd h1 h5 hb1 hb2 => exact .oth hd h1 h5 (hb1.turned ht hT) (hb2.turned ht hT)
theorem StepV.fresh {S S' : Nat -> Prop} {w : World} {fb : Nat} {nds : List ND} {k : Nat} {v : Value} (hS : ∀ k, S' k -> S k \/ w.heap.size <= k) (h : StepV S w fb nds k v) : StepV S' w fb nds k v := by
 induction h with
 | one hd hk hv => exact .one hd hk (hv.fresh hS)
 | grp hd hk hq _ ih => exact .grp hd hk hq ih
 | oth hd h1 h5 hb1 hb2 => exact .oth hd h1 h5 (hb1.fresh hS) (hb2.fresh hS)
def sprT : PN -> Bool
 | .mk k _ lo hi _ ks => if k = 5 then (match ks with | [] => false | t :: _ => sprT t) else decide (k = 4) && decide (hi < 0) && (empK k lo (empL (kidsK k ks))).testBit 0
def leastOf (lo : Int) (e : Nat) : Nat := if e.testBit 0 = true then 0 else lo.toNat
inductive FlowV (S : Nat -> Prop) (w : World) (fb : Nat) (nds : List ND) (d : ND) : Value -> Prop
 | one {b : Nat} {v : Value} (hk : d.x.kind = 1) (hb : BoxO S w b #[v] 131) (hv : OneV S w fb d.x.set v) : FlowV S w fb nds d (funV 70 #[ptrV b])
 | row {b1 b2 : Nat} (hk : d.x.kind = 2) (hb1 : BoxO S w b1 d.bare 106) (hb2 : BoxO S w b2 #[ptrV fb] 62) : FlowV S w fb nds d (funV 95 #[ptrV b1, ptrV b2])
 | alt {b1 b2 : Nat} (hk : d.x.kind = 3) (hb1 : BoxO S w b1 d.bare 106) (hb2 : BoxO S w b2 #[ptrV fb] 62) : FlowV S w fb nds d (funV 96 #[ptrV b1, ptrV b2])
 | grp {b1 b2 : Nat} (hk : d.x.kind = 5) (hb1 : BoxO S w b1 #[ptrV fb] 62) (hb2 : BoxO S w b2 d.bare 106) : FlowV S w fb nds d (funV 74 #[ptrV b1, ptrV b2])
 | spr {b1 b2 q : Nat} {d' : ND} (hk : d.x.kind = 4) (hh : d.x.hi ≠ 0) (hq : d.ks[0]? = some q) (hd : nds[q]? = some d') (hs : sprT d'.t = true) (hb1 : BoxO S w b1 #[ptrV fb] 62) (hb2 : BoxO S w b2 #[.int .i64 (q : Int)] 3) : FlowV S w fb nds d (funV 99 #[ptrV b1, ptrV b2])
 | rep {b1 b2 b3 b4 b5 q : Nat} {d' : ND} {v : Value} (hk : d.x.kind = 4) (hq : d.ks[0]? = some q) (hd : nds[q]? = some d') (hb1 : BoxO S w b1 #[.int .i64 (leastOf d.x.lo d'.e : Int)] 3) (hb2 : BoxO S w b2 d.bare 106) (hb3 : BoxO S w b3 #[v] 131) (hv : StepV S w fb nds q v)
  (hb4 : BoxO S w b4 #[ptrV fb] 62) (hb5 : BoxO S w b5 #[.int .i64 (q : Int)] 3) : FlowV S w fb nds d (funV 101 #[ptrV b1, ptrV b2, ptrV b3, ptrV b4, ptrV b5])
 | oth (h1 : d.x.kind ≠ 1) (h2 : d.x.kind ≠ 2) (h3 : d.x.kind ≠ 3) (h4 : d.x.kind ≠ 4) (h5 : d.x.kind ≠ 5) : FlowV S w fb nds d (funV 76 #[])
theorem FlowV.turned {S T : Nat -> Prop} {w w' : World} {fb : Nat} {nds : List ND} {d : ND} {v : Value} (ht : Turned T w w') (hT : ∀ k, T k -> S k) (h : FlowV S w fb nds d v) : FlowV S w' fb nds d v := by
 cases h with
 | one hk hb hv => exact .one hk (hb.turned ht hT) (hv.turned ht hT)
 | row hk hb1 hb2 => exact .row hk (hb1.turned ht hT) (hb2.turned ht hT)
 | alt hk hb1 hb2 => exact .alt hk (hb1.turned ht hT) (hb2.turned ht hT)
 | grp hk hb1 hb2 => exact .grp hk (hb1.turned ht hT) (hb2.turned ht hT)
 | spr hk hh hq hd hs hb1 hb2 => exact .spr hk hh hq hd hs (hb1.turned ht hT) (hb2.turned ht hT)
 | rep hk hq hd hb1 hb2 hb3 hv hb4 hb5 => exact .rep hk hq hd (hb1.turned ht hT) (hb2.turned ht hT) (hb3.turned ht hT) (hv.turned ht hT) (hb4.turned ht hT) (hb5.turned ht hT)
 | oth h1 h2 h3 h4 h5 => exact .oth h1 h2 h3 h4 h5
theorem FlowV.fresh {S S' : Nat -> Prop} {w : World} {fb : Nat} {nds : List ND} {d : ND} {v : Value} (hS : ∀ k, S' k -> S k \/ w.heap.size <= k) (h : FlowV S w fb nds d v) : FlowV S' w fb nds d v := by
 cases h with
 | one hk hb hv => exact .one hk (hb.fresh hS) (hv.fresh hS)
 | row hk hb1 hb2 => exact .row hk (hb1.fresh hS) (hb2.fresh hS)
 | alt hk hb1 hb2 => exact .alt hk (hb1.fresh hS) (hb2.fresh hS)
 | grp hk hb1 hb2 => exact .grp hk (hb1.fresh hS) (hb2.fresh hS)
 | spr hk hh hq hd hs hb1 hb2 => exact .spr hk hh hq hd hs (hb1.fresh hS) (hb2.fresh hS)
 | rep hk hq hd hb1 hb2 hb3 hv hb4 hb5 => exact .rep hk hq hd (hb1.fresh hS) (hb2.fresh hS) (hb3.fresh hS) (hv.fresh hS) (hb4.fresh hS) (hb5.fresh hS)
 | oth h1 h2 h3 h4 h5 => exact .oth h1 h2 h3 h4 h5
structure NodeP (nds : List ND) (k : Nat) (d : ND) : Prop where
 kind : d.x.kind = d.t.kind
 set : d.x.set = d.t.set
 lo : d.x.lo = d.t.lo
 hi : d.x.hi = d.t.hi
 num : d.x.num = d.t.num
 len : d.ks.length = (kidsOf d.t).length
 kid : ∀ (j q : Nat), d.ks[j]? = some q -> q < k /\ ∃ d', nds[q]? = some d' /\ (kidsOf d.t)[j]? = some d'.t
 emp : d.e = empT d.t
 grp : d.g = grpT d.t
 cap : d.ks.length <= d.kc
 many : d.ks.length <= 100000
structure NodeM (S : Nat -> Prop) (w : World) (fb : Nat) (nds : List ND) (d : ND) : Prop where
 kids : OffAt S w d.kA (intsV d.ks)
 flow : FlowV S w fb nds d d.fn
theorem NodeM.turned {S T : Nat -> Prop} {w w' : World} {fb : Nat} {nds : List ND} {d : ND} (ht : Turned T w w') (hT : ∀ k, T k -> S k) (h : NodeM S w fb nds d) : NodeM S w' fb nds d :=
 ⟨h.kids.turned ⟨ht.os, ht.tape, ht.output, ht.size, fun k hk hn => ht.block k hk fun hb => hn (hT k hb)⟩, h.flow.turned ht hT⟩
theorem NodeM.fresh {S S' : Nat -> Prop} {w : World} {fb : Nat} {nds : List ND} {d : ND} (hS : ∀ k, S' k -> S k \/ w.heap.size <= k) (h : NodeM S w fb nds d) : NodeM S' w fb nds d := ⟨h.kids.fresh hS, h.flow.fresh hS⟩
structure KeptQ (S : Nat -> Prop) (w : World) (F : FN) (L k i : Nat) (X : Ix) : Prop where
 at' : IxAt S F.N w X
 low : X.low i
 is : ∃ d, F.nds[k]? = some d /\ EndsR L (F.rel d.t) (onlyB i) X.mem
structure FindAt (S : Nat -> Prop) (w : World) (fb : Nat) (F : FN) (L : Nat) : Prop where
 old : ∀ k, S k -> k < w.heap.size
 sm : S F.mb
 sf : S fb
 ne : fb ≠ F.mb
 obj : w.heap[fb]? = some (.cells #[.string F.s, .bool F.b, .int .i64 (L : Int), .slice F.A F.nds.length F.c, .map (some F.mb)] 100 (0, 0))
 row : OffAt S w F.A (ndsV F.nds)
 cap : F.nds.length <= F.c
 dat : ∀ (k : Nat) (d : ND), F.nds[k]? = some d -> NodeP F.nds k d
 mem : ∀ (k : Nat) (d : ND), F.nds[k]? = some d -> NodeM S w fb F.nds d
 kept : KeptAt w F.mb F.nds.length F.N (KeptQ S w F L)
 deb : DebAt w
 gdeb : ¬ S 0
 small : F.N <= 100000
 few : F.nds.length <= 100000
 lim : L <= F.N
theorem DebAt.turned {S : Nat -> Prop} {w w' : World} (h : DebAt w) (ht : Turned S w w') (hn : ¬ S 0) : DebAt w' := fun i hi => ht.cell (h i hi) hn
theorem turned_mono {S T : Nat -> Prop} {w w' : World} (ht : Turned T w w') (hT : ∀ k, T k -> S k) : Turned S w w' := ⟨ht.os, ht.tape, ht.output, ht.size, fun k hk hn => ht.block k hk fun hb => hn (hT k hb)⟩
theorem FindAt.go {S S' T : Nat -> Prop} {w w' : World} {fb L : Nat} {F : FN} (h : FindAt S w fb F L) (ht : Turned T w w') (hT : ∀ k, T k -> k < w.heap.size -> S k /\ k ≠ F.mb /\ k ≠ fb) (hm : S' F.mb) (hf : S' fb) (hS : ∀ k, S' k -> S k \/ w.heap.size <= k) (hold : ∀ k, S' k -> k < w'.heap.size) : FindAt S' w' fb F L := by
 have ht2 : Turned (fun k => T k /\ k < w.heap.size) w w' := ⟨ht.os, ht.tape, ht.output, ht.size, fun k hk hn => ht.block k hk fun hb => hn ⟨hb, hk⟩⟩;have hTS : ∀ k, (T k /\ k < w.heap.size) -> S k := fun k hk => (hT k hk.1 hk.2).1
 have key : ∀ {A : Option Addr} {vs : List Value}, OffAt S w A vs -> OffAt S' w' A vs := fun {A vs} ho => by
  have h1 : OffAt (fun k => S k \/ S' k) w A vs := ho.fresh fun k hk => hk.elim .inl (hS k);exact (h1.turned (turned_mono ht2 fun k hk => .inl (hTS k hk))).weaken fun k hk => .inr hk
 have kbox : ∀ {b : Nat} {cs : Array Value} {t : TypeId}, BoxO S w b cs t -> BoxO S' w' b cs t := fun {b cs t} hb => ⟨(hb.turned ht2 hTS).1, (hb.fresh hS).2⟩;refine ⟨hold, hm, hf, h.ne, ?_, key h.row, h.cap, h.dat, fun k d hd => ?_, ?_, h.deb.turned ht2 fun hg => h.gdeb (hTS _ hg), fun hg => ?_, h.small, h.few, h.lim⟩
 ·exact ht2.obj h.obj fun hk => (hT fb hk.1 hk.2).2.2 rfl
 ·have h1 : NodeM (fun k => S k \/ S' k) w fb F.nds d := (h.mem k d hd).fresh fun k hk => hk.elim .inl (hS k);have h2 := h1.turned ht2 fun k hk => .inl (hTS k hk);exact h2.fresh fun k hk => .inl (.inr hk)
 ·have hmb : F.mb < w.heap.size := h.kept.lt;refine h.kept.same (ht2.block F.mb hmb fun hk => (hT F.mb hk.1 hk.2).2.1 rfl) fun k i X hq => ⟨?_, hq.low, hq.is⟩;exact ⟨key hq.at'.off, hq.at'.cap, hq.at'.ok, hq.at'.fits⟩
 ·have hl : 0 < w.heap.size := World.block_lt_of_cell? w _ (h.deb 0 (by decide));exact (hS _ hg).elim h.gdeb fun hk => by omega
theorem FindAt.below {S : Nat -> Prop} {w w' : World} {fb L : Nat} {F : FN} (h : FindAt S w fb F L) (hb : Below w.heap.size w w') : FindAt S w' fb F L :=
 h.go (T := fun _ => False) (Turned.of_below hb) (fun _k hk => hk.elim) h.sm h.sf (fun _ hk => .inl hk) fun k hk => Nat.lt_of_lt_of_le (h.old k hk) hb.size
theorem FindAt.priv {S S' : Nat -> Prop} {w w' : World} {fb L : Nat} {F : FN} (h : FindAt S w fb F L) (hb : Below w.heap.size w w') (hm : ∀ k, S k -> S' k) (hS : ∀ k, S' k -> S k \/ w.heap.size <= k) (hold : ∀ k, S' k -> k < w'.heap.size) : FindAt S' w' fb F L :=
 h.go (T := fun _ => False) (Turned.of_below hb) (fun _k hk => hk.elim) (hm _ h.sm) (hm _ h.sf) hS hold
theorem FindAt.weaken {S S' : Nat -> Prop} {w : World} {fb L : Nat} {F : FN} (h : FindAt S w fb F L) (hm : S' F.mb) (hf : S' fb) (hS : ∀ k, S' k -> S k) : FindAt S' w fb F L :=
 h.go (T := fun _ => False) (Turned.refl _ w) (fun _k hk => hk.elim) hm hf (fun k hk => .inl (hS k hk)) fun k hk => h.old k (hS k hk)
theorem FindAt.cell {S : Nat -> Prop} {w : World} {fb L : Nat} {F : FN} (h : FindAt S w fb F L) {k : Nat} {d : ND} (hd : F.nds[k]? = some d) : ∃ g o, F.A = some ⟨g, o, none⟩ /\ g < w.heap.size /\ ¬ S g /\ ∀ (j : Nat) (v : Value), d.cells[j]? = some v -> w.cell? ⟨g, o + k * 13 + j, none⟩ = some v := by
 rcases h.row with hr | ⟨g, o, e, hn, hr⟩
 ·have := ndsV_at k d hd 0 _ rfl;rw [hr] at this;simp at this
 ·exact ⟨g, o, e, World.block_lt_of_cell? w _ (hr _ _ (ndsV_at k d hd 0 _ rfl)), hn, fun j v hv => by rw [Nat.add_assoc]; exact hr _ _ (ndsV_at k d hd j v hv)⟩
open Go.RowKit Go.Deep Go.Sort
theorem bD (w : World) (n : Nat) : Below w.heap.size w (w.drewN n) := ⟨rfl, rfl, rfl, nlr _, fun _ _ => rfl⟩
def SpotC (s : ByteArray) (b : Bool) (i : Nat) (w : World) (e : Ending) (w' : World) : Prop := e = .returned (.int .u8 ((2 ^ spot s.data.toList b i : Nat) : Int)) /\ Below w.heap.size w w'
set_option maxRecDepth 100000 in
theorem spot_is {w : World} {fb : Nat} {s : ByteArray} {b : Bool} (h0 : w.cell? ⟨fb, 0, none⟩ = some (.string s)) (h1 : w.cell? ⟨fb, 1, none⟩ = some (.bool b)) (i : Nat) : Calls Tryz.prog 104 #[ptrV fb, .int .i64 (i : Int)] w (SpotC s b i w) := by
 have hl : s.data.toList.length = s.size := rfl;unfold SpotC spot;rw [hl];clear hl;by_cases hi : i = 0
 ·subst hi;by_cases hz : 0 = s.size
  ·have z1 : decide ((0 : Int) = (s.size : Int)) = true := dqt (by omega);have z2 : (s.size : Int) = 0 := (by omega);cases b
   ·rw [if_neg (by simp), if_pos hz];clear hz;go_enter Tryz.func104, Tryz.ntmps104;go_wp2_with fail;go_quiet (fail);go_wp2_with fail;go_ret;exact ⟨rfl, bD w _⟩
   ·rw [if_pos (by simp), if_pos hz];clear hz;go_enter Tryz.func104, Tryz.ntmps104;go_wp2_with fail;go_quiet (fail);go_wp2_with fail;go_ret;exact ⟨rfl, bD w _⟩
  ·have z1 : decide ((0 : Int) = (s.size : Int)) = false := dqf (by omega);have z2 : ¬ (s.size : Int) = 0 := (by omega);cases b
   ·rw [if_neg (by simp), if_neg hz];clear hz;go_enter Tryz.func104, Tryz.ntmps104;go_wp2_with fail;go_quiet (fail);go_wp2_with fail;go_ret;exact ⟨rfl, bD w _⟩
   ·rw [if_pos (by simp), if_neg hz];clear hz;go_enter Tryz.func104, Tryz.ntmps104;go_wp2_with fail;go_quiet (fail);go_wp2_with fail;go_ret;exact ⟨rfl, bD w _⟩
 ·have z0 : ¬ (i : Int) = 0 := (by omega);rw [if_neg (by simp [hi])];by_cases hz : i = s.size
  ·have z1 : ((i : Int) == (s.size : Int)) = true := (by rw [beq_iff_eq]; omega);rw [if_pos hz];clear hz;go_enter Tryz.func104, Tryz.ntmps104;go_wp2_with fail;go_quiet (fail);go_wp2_with fail;go_ret;exact ⟨rfl, bD w _⟩
  ·have z1 : ((i : Int) == (s.size : Int)) = false := (by rw [beq_eq_false_iff_ne]; omega);rw [if_neg hz];go_enter Tryz.func104, Tryz.ntmps104;go_wp2_with fail;go_quiet (fail);go_wp2_with fail;go_ret;exact ⟨rfl, bD w _⟩
open Go.RowKit Go.Deep Go.Sort
theorem bits_e : ∀ e : Fin 16, ∀ s : Fin 4, bits .and .u8 ((e.val : Nat) : Int) ((2 ^ s.val : Nat) : Int) = (if e.val.testBit s.val = true then ((2 ^ s.val : Nat) : Int) else 0) := by decide
theorem bits_at {e s : Nat} (he : e < 16) (hs : s < 4) : bits .and .u8 (e : Int) ((2 ^ s : Nat) : Int) = (if e.testBit s = true then ((2 ^ s : Nat) : Int) else 0) := bits_e ⟨e, he⟩ ⟨s, hs⟩
theorem FindAt.emp {S : Nat -> Prop} {w : World} {fb L : Nat} {F : FN} (h : FindAt S w fb F L) {k : Nat} {d : ND} (hd : F.nds[k]? = some d) : EmpR F.T F.b d.e (F.rel d.t) := by rw [(h.dat k d hd).emp]; exact emp_T F.T F.b d.t
theorem FindAt.f0 {S : Nat -> Prop} {w : World} {fb L : Nat} {F : FN} (h : FindAt S w fb F L) : w.cell? ⟨fb, 0, none⟩ = some (.string F.s) := by rw [obc h.obj]; rfl
theorem FindAt.f1 {S : Nat -> Prop} {w : World} {fb L : Nat} {F : FN} (h : FindAt S w fb F L) : w.cell? ⟨fb, 1, none⟩ = some (.bool F.b) := by rw [obc h.obj]; rfl
theorem FindAt.f2 {S : Nat -> Prop} {w : World} {fb L : Nat} {F : FN} (h : FindAt S w fb F L) : w.cell? ⟨fb, 2, none⟩ = some (.int .i64 (L : Int)) := by rw [obc h.obj]; rfl
theorem FindAt.f3 {S : Nat -> Prop} {w : World} {fb L : Nat} {F : FN} (h : FindAt S w fb F L) : w.cell? ⟨fb, 3, none⟩ = some (.slice F.A F.nds.length F.c) := by rw [obc h.obj]; rfl
theorem FindAt.f4 {S : Nat -> Prop} {w : World} {fb L : Nat} {F : FN} (h : FindAt S w fb F L) : w.cell? ⟨fb, 4, none⟩ = some (.map (some F.mb)) := by rw [obc h.obj]; rfl
def BoolC (b : Bool) (w : World) (e : Ending) (w' : World) : Prop := e = .returned (.bool b) /\ Below w.heap.size w w'
set_option maxRecDepth 100000 in
theorem emptyAt_is {S : Nat -> Prop} {w : World} {fb L : Nat} {F : FN} (h : FindAt S w fb F L) {k : Nat} {d : ND} (hd : F.nds[k]? = some d) (i : Nat) (hi : i <= F.N) : Calls Tryz.prog 82 #[ptrV fb, .int .i64 (k : Int), .int .i64 (i : Int)] w (BoolC (F.rel d.t i i) w) := by
 have hE := h.emp hd;have hbit : d.e.testBit (spot F.T F.b i) = F.rel d.t i i := hE.is i (by rw [F.lenT]; exact hi);have hv := bits_at hE.lt (spot_lt F.T F.b i);have h0 := h.f0;have h1 := h.f1;have h3 := h.f3;have hkl : k < F.nds.length := (List.getElem?_eq_some_iff.1 hd).1;obtain ⟨g, o, hA, _, _, hc⟩ := h.cell hd;have hc := hc 10 (.int .u8 (d.e : Int)) rfl;rw [hA] at h3
 have HS := lh (show ∀ (dr : Nat) (os : Array Obj), Calls Tryz.prog 104 #[ptrV fb, .int .i64 (i : Int)] (grow (redrawn w dr) os) fun e w'' => e = .returned (.int .u8 ((2 ^ spot F.s.data.toList F.b i : Nat) : Int)) /\ ∃ p : Regrown, w'' = grow (redrawn w p.d) p.os from
  fun dr os => Calls.regrown_of ((spot_is (fb := fb) (s := F.s) (b := F.b) (cell_regrown h0 dr os) (cell_regrown h1 dr os) i)))
 unfold BoolC;obtain ⟨n, hn⟩ : ∃ n, n = F.nds.length := ⟨_, rfl⟩;rw [<- hn] at h3 hkl;have C3 := cell_regrown h3;have CC := cell_regrown hc;unfold FN.T at hbit hv;generalize F.rel d.t i i = r at *;obtain ⟨q, hq⟩ : ∃ q : Nat, q = 2 ^ spot F.s.data.toList F.b i := ⟨_, rfl⟩
 have hq0 : ¬ (q : Int) = 0 := by
  have : 0 < 2 ^ spot F.s.data.toList F.b i := Nat.pow_pos (by decide);omega
 rw [<- hq] at HS hv;have hqb : ((q : Int) != 0) = true := (by simpa using hq0);rw [hbit] at hv;have hkI : (k : Int) < (n : Int) := (by omega);have hk0 : (0 : Int) <= (k : Int) := (by omega);clear hE hq hbit hn hd hA h0 h1 h3 hc;cases r
 ·rw [if_neg (by decide)] at hv;clear h hi;go_enter Tryz.func82, Tryz.ntmps82;go_wp2_with fail;refine wp_region_quiet_below (by kernel_rfl) (by kernel_rfl) ?_
  repeat (go_big_quiet_step (with_reducible exact HS.out _ _))
  refine wpQuiet_nil ?_;rintro w5 ⟨⟨dq, osq⟩, rfl⟩;have HB5 := lh (below_regrown w dq osq);generalize grow (redrawn w dq) osq = w5 at HB5 ⊢;clear C3 CC;go_wp2_with fail;go_ret;exact ⟨rfl, HB5.out⟩
 ·rw [if_pos rfl] at hv;clear h hi;go_enter Tryz.func82, Tryz.ntmps82;go_wp2_with fail;refine wp_region_quiet_below (by kernel_rfl) (by kernel_rfl) ?_
  repeat (go_big_quiet_step (with_reducible exact HS.out _ _))
  refine wpQuiet_nil ?_;rintro w5 ⟨⟨dq, osq⟩, rfl⟩;have HB5 := lh (below_regrown w dq osq);generalize grow (redrawn w dq) osq = w5 at HB5 ⊢;clear C3 CC;go_wp2_with fail;go_ret;exact ⟨rfl, HB5.out⟩
open Go.RowKit Go.Deep Go.Sort
structure Got (S : Nat -> Prop) (fb : Nat) (F : FN) (L l : Nat) (R : (Nat -> Bool) -> Prop) (w w' : World) (y : Ix) : Prop where
 at' : IxAt S F.N w' y
 is : R y.mem
 low : y.low l
 fin : FindAt S w' fb F L
 tur : Turned (· = F.mb) w w'
def GotE (S : Nat -> Prop) (fb : Nat) (F : FN) (L l : Nat) (R : (Nat -> Bool) -> Prop) (w : World) (e : Ending) (w' : World) : Prop := ∃ y : Ix, e = .returned y.v /\ Got S fb F L l R w w' y
structure Ask (S : Nat -> Prop) (fb : Nat) (F : FN) (L l : Nat) (w : World) (x : Ix) : Prop where
 fin : FindAt S w fb F L
 at' : IxAt S F.N w x
 inN : InN F.N x.mem
 low : x.low l
def LongC (fb : Nat) (F : FN) (k : Nat) : Prop := ∀ (S : Nat -> Prop) (w : World) (L l : Nat) (x : Ix) (d : ND), Ask S fb F L l w x -> F.nds[k]? = some d ->
 Calls Tryz.prog 50 #[ptrV fb, .int .i64 (k : Int), x.v] w (GotE S fb F L l (EndsR L (F.rel d.t) x.mem) w)
theorem Ask.small {S : Nat -> Prop} {fb : Nat} {F : FN} {L l : Nat} {w : World} {x : Ix} (h : Ask S fb F L l w x) : F.N < 1000000000000 := by have := h.fin.small; omega
theorem Ask.below {S : Nat -> Prop} {fb : Nat} {F : FN} {L l : Nat} {w w' : World} {x : Ix} (h : Ask S fb F L l w x) (hb : Below w.heap.size w w') : Ask S fb F L l w' x := ⟨h.fin.below hb, h.at'.stays hb, h.inN, h.low⟩
theorem bobj {a b : World} {B : Nat} (h : Below B a b) {k : Nat} {o : Obj} (hk : a.heap[k]? = some o) (hn : k < B) : b.heap[k]? = some o := (h.block k hn).trans hk
theorem set_obj {w : World} {b : Nat} {cs : Array Value} {T : TypeId} {fr : Nat × Nat} (h : w.heap[b]? = some (.cells cs T fr)) (i : Nat) (v : Value) : (w.setCell ⟨b, i, none⟩ v).heap[b]? = some (.cells (cs.setIfInBounds i v) T fr) := by
 have hl := lts h;unfold World.setCell;simp only [Array.getElem?_modify, h, Option.map_some];rfl
theorem put_two {w : World} {b : Nat} {u v u' v' : Value} {T : TypeId} (h : w.heap[b]? = some (.cells #[u, v] T (0, 0))) : ((w.setCell ⟨b, 0, none⟩ u').setCell ⟨b, 1, none⟩ v').heap[b]? = some (.cells #[u', v'] T (0, 0)) /\ Turned (· = b) w ((w.setCell ⟨b, 0, none⟩ u').setCell ⟨b, 1, none⟩ v') := by
 refine ⟨?_, ((Turned.refl (· = b) w).put' rfl 0 u').put' rfl 1 v'⟩;rw [set_obj (set_obj h 0 u') 1 v'];rfl
def Pr (S : Nat -> Prop) (w : World) (n : Nat) (k : Nat) : Prop := S k \/ (w.heap.size <= k /\ k < w.heap.size + n)
theorem Pr.old {S : Nat -> Prop} {w : World} {n m k : Nat} (hS : ∀ k, S k -> k < w.heap.size) (hm : w.heap.size + n <= m) (h : Pr S w n k) : k < m := by
 rcases h with h | h
 ·have := hS k h; omega
 ·omega
theorem IxAt.pr {S : Nat -> Prop} {N : Nat} {w : World} {x : Ix} (h : IxAt S N w x) (n : Nat) : IxAt (Pr S w n) N w x := h.fresh fun _k hk => hk.imp_right fun h => h.1
theorem FindAt.pr {S : Nat -> Prop} {w W : World} {fb L : Nat} {F : FN} (h : FindAt S w fb F L) (n : Nat) (hb : Below w.heap.size w W) (hs : w.heap.size + n <= W.heap.size) : FindAt (Pr S w n) W fb F L :=
 h.priv hb (fun _k hk => .inl hk) (fun _k hk => hk.imp_right fun h => h.1) (fun _k hk => Pr.old h.old hs hk)
theorem ret_box {S : Nat -> Prop} {N l b n0 : Nat} {P Q : Nat -> Bool} {w wx : World} {y : Ix} (hb : Below w.heap.size w wx) (hbw : w.heap.size <= b) (hbn : b < w.heap.size + n0) (hy : IxAt (Pr S w n0) N wx y) (hm : ∀ j, y.mem j = P j) (hl : y.low l) (hPQ : ∀ j, P j = Q j) {u v : Value} (hobj : wx.heap[b]? = some (.cells #[u, v] 68 (0, 0))) {n : Nat} (hn : n = y.ws.length) :
  RetI S N l Q w (.returned (.agg #[.int .i64 (y.f : Int), .slice y.A n y.c])) ((wx.setCell ⟨b, 0, none⟩ (.int .i64 (y.f : Int))).setCell ⟨b, 1, none⟩ (.slice y.A n y.c)) := by
 obtain ⟨_, hp2⟩ := put_two (u' := .int .i64 (y.f : Int)) (v' := .slice y.A n y.c) hobj;have hbl : Below w.heap.size wx ((wx.setCell ⟨b, 0, none⟩ (.int .i64 (y.f : Int))).setCell ⟨b, 1, none⟩ (.slice y.A n y.c)) := hp2.to_below hb.size (fun k hk => by omega);exact ⟨y, by unfold Ix.v; rw [hn], ⟨(hy.turned (turned_mono hp2 fun k hk => .inr (by omega))).weaken fun k hk => .inl hk, fun j => (hm j).trans (hPQ j), hl⟩, hb.trans hbl⟩
theorem turB {m : Nat} {a b c : World} (h : Turned (· = m) a b) (hb : Below b.heap.size b c) : Turned (· = m) a c :=
 Turned.trans (T := fun _ => False) h (Turned.of_below hb) (fun _ _ hf => hf.elim)
theorem turT {m : Nat} {a b c : World} (h : Turned (· = m) a b) (hb : Turned (· = m) b c) : Turned (· = m) a c := h.trans hb fun _ _ h => h
theorem turBT {m : Nat} {a b c : World} (h : Below a.heap.size a b) (hb : Turned (· = m) b c) : Turned (· = m) a c := (Turned.of_below (S := (· = m)) h).trans hb fun _ _ h => h
theorem turS {m b : Nat} {a w w' : World} (h : Turned (· = m) a w) (hb : Turned (· = b) w w') (hle : a.heap.size <= b) : Turned (· = m) a w' := h.trans hb fun i hi hib => by
 have : i = b := hib;omega
theorem box_all {w : World} {b : Nat} {u v : Value} {T : TypeId} (h : w.heap[b]? = some (.cells #[u, v] T (0, 0))) : w.cell? ⟨b, 0, none⟩ = some u /\ w.cell? ⟨b, 1, none⟩ = some v /\ w.frozen? ⟨b, 0, none⟩ = false /\ w.frozen? ⟨b, 1, none⟩ = false /\ b < w.heap.size :=
 ⟨(two_cells h).1, (two_cells h).2, by simp [World.frozen?, h], by simp [World.frozen?, h], lts h⟩
theorem two_boxes (w : World) (u v : Value) (T : TypeId) (u' v' : Value) (T' : TypeId) : ∃ W, W = (w.alloc (.cells #[u, v] T)).alloc (.cells #[u', v'] T') /\ Below w.heap.size w W /\ W.heap.size = w.heap.size + 2 /\ W.heap[w.heap.size]? = some (.cells #[u, v] T (0, 0)) /\ W.heap[w.heap.size + 1]? = some (.cells #[u', v'] T' (0, 0)) :=
 ⟨_, rfl, (bW w _).alloc (by simp) _, by simp, old_obj' (heap_alloc_new w _) _, by have := heap_alloc_new (w.alloc (.cells #[u, v] T)) (.cells #[u', v'] T'); rwa [World.size_alloc] at this⟩
theorem bDr {B : Nat} {a b : World} (h : Below B a b) : Below B a b.drew := h.drew
theorem got_ret {S : Nat -> Prop} {fb L l b n0 : Nat} {F : FN} {R : (Nat -> Bool) -> Prop} {w wx : World} {y : Ix} (hS : FindAt S w fb F L) (ht : Turned (· = F.mb) w wx) (hbw : w.heap.size <= b) (hbn : b < w.heap.size + n0) (hf : FindAt (Pr S w n0) wx fb F L) (hy : IxAt (Pr S w n0) F.N wx y) (hR : R y.mem) (hl : y.low l) {u v : Value}
  (hobj : wx.heap[b]? = some (.cells #[u, v] 68 (0, 0))) {n : Nat} (hn : n = y.ws.length) : GotE S fb F L l R w (.returned (.agg #[.int .i64 (y.f : Int), .slice y.A n y.c])) ((wx.setCell ⟨b, 0, none⟩ (.int .i64 (y.f : Int))).setCell ⟨b, 1, none⟩ (.slice y.A n y.c)) := by
 obtain ⟨_, hp2⟩ := put_two (u' := .int .i64 (y.f : Int)) (v' := .slice y.A n y.c) hobj;have hmb := hS.kept.lt;have hfb := lts hS.obj;refine ⟨y, by unfold Ix.v; rw [hn], ⟨(hy.turned (turned_mono hp2 fun k hk => .inr (by omega))).weaken fun k hk => .inl hk, hR, hl, ?_, turS ht hp2 hbw⟩⟩;refine hf.go hp2 (fun k hk _ => ⟨.inr (by omega), by omega, by omega⟩) hS.sm hS.sf (fun k hk => .inl (.inl hk)) fun k hk => ?_;have h1 := hS.old k hk;have h2 := ht.size;have h3 := hp2.size;omega
theorem got_put {S : Nat -> Prop} {fb L l b n0 : Nat} {F : FN} {R : (Nat -> Bool) -> Prop} {w wx wy : World} {y : Ix} (hS : FindAt S w fb F L) (g : Got (Pr S w n0) fb F L l R w wx y) (hp2 : Turned (· = b) wx wy) (hbw : w.heap.size <= b) (hbn : b < w.heap.size + n0) : Got (Pr S w n0) fb F L l R w wy y := by
 have hmb := hS.kept.lt;have hfb := lts hS.obj;exact ⟨g.at'.turned (turned_mono hp2 fun k hk => .inr (by omega)), g.is, g.low, g.fin.go hp2 (fun k hk _ => ⟨.inr (by omega), by omega, by omega⟩) g.fin.sm g.fin.sf (fun k hk => .inl hk) (fun k hk => Nat.lt_of_lt_of_le (g.fin.old k hk) hp2.size), turS g.tur hp2 hbw⟩
theorem GotE.alloc {S : Nat -> Prop} {fb L l : Nat} {F : FN} {R : (Nat -> Bool) -> Prop} {w w' : World} {e : Ending} (h : GotE S fb F L l R w e w') (o : Obj) : GotE S fb F L l R w e (w'.alloc o) := by
 obtain ⟨y, he, g⟩ := h;exact ⟨y, he, ⟨g.at'.stays (bW w' o), g.is, g.low, g.fin.below (bW w' o), turB g.tur (bW w' o)⟩⟩
theorem Ask.pr {S : Nat -> Prop} {fb : Nat} {F : FN} {L l : Nat} {w W : World} {x : Ix} (h : Ask S fb F L l w x) (n : Nat) (hb : Below w.heap.size w W) (hs : w.heap.size + n <= W.heap.size) : Ask (Pr S w n) fb F L l W x :=
 ⟨h.fin.pr n hb hs, (h.at'.pr n).stays hb, h.inN, h.low⟩
theorem Got.ask {S : Nat -> Prop} {fb : Nat} {F : FN} {L l l' : Nat} {R : (Nat -> Bool) -> Prop} {w w' : World} {x y : Ix} (h : Ask S fb F L l' w x) (g : Got S fb F L l R w w' y) : Ask S fb F L l' w' x :=
 ⟨g.fin, h.at'.turned (turned_mono g.tur fun k hk => by rw [hk]; exact h.fin.sm), h.inN, h.low⟩
open Go.RowKit Go.Deep Go.Sort
theorem mem_low {x : Ix} {l j : Nat} (h : x.low l) (hj : x.mem j = true) : l / 64 <= j / 64 := by
 have hm : x.ws ≠ [] := fun e => by rw [mem_nil x e] at hj; cases hj
 have hf := h.resolve_left hm
 have : x.f <= j / 64 := by
  rcases Nat.lt_or_ge (j / 64) x.f with h1 | h1
  ·unfold Ix.mem memN wordN at hj;rw [if_pos h1, Nat.zero_testBit] at hj;cases hj
  ·exact h1
 omega
theorem low_up {x : Ix} {l j : Nat} (h : x.low j) (hl : l / 64 <= j / 64) : x.low l := h.imp_right fun h => by omega
theorem at_ends {F : FN} {e : Nat} {r : Rel} (hE : EmpR F.T F.b e r) (h0 : e.testBit 0 = false) {j : Nat} (hj : j <= F.N) (h : r j j = true) : j = 0 \/ j = F.N := by
 rw [<- hE.is j (by rw [F.lenT]; exact hj)] at h;rcases Nat.eq_zero_or_pos j with h1 | h1
 ·exact .inl h1
 ·refine .inr (Decidable.byContradiction fun h2 => ?_)
  have : spot F.T F.b j = 0 := by
   unfold spot;rw [if_neg (fun h => by omega), if_neg (by rw [F.lenT]; exact h2)]
  rw [this, h0] at h;cases h
theorem at_all {F : FN} {e : Nat} {r : Rel} (hE : EmpR F.T F.b e r) (h0 : e.testBit 0 = true) {j : Nat} (hj : j <= F.N) : r j j = true := by
 rw [<- hE.is j (by rw [F.lenT]; exact hj), hE.all h0];exact bits15 _ (spot_lt _ _ _)
structure EmM (S : Nat -> Prop) (N : Nat) (w : World) (P : Nat -> Bool) (l : Nat) (x : Ix) (wx : World) : Prop where
 bel : Below w.heap.size w wx
 o5 : wx.heap[w.heap.size]? = some (.cells #[.int .i64 (x.f : Int), .slice x.A x.ws.length x.c] 68 (0, 0))
 o6 : wx.heap[w.heap.size + 1]? = some (.cells #[.int .i64 0, .slice none 0 0] 68 (0, 0))
 o7 : ∃ y : Ix, wx.heap[w.heap.size + 2]? = some (.cells #[.int .i64 (y.f : Int), .slice y.A y.ws.length y.c] 68 (0, 0)) /\ IxAt (Pr S w 3) N wx y /\ (∀ j, y.mem j = P j) /\ y.low l
theorem em_post {F : FN} {e : Nat} {r : Rel} (hE : EmpR F.T F.b e r) (h0 : e.testBit 0 = false) {m : Nat -> Bool} (hN : InN F.N m) {c0 cN : Bool} (hc0 : c0 = (m 0 && r 0 0)) (hcN : cN = (m F.N && r F.N F.N)) (j : Nat) : ((decide (j = 0) && c0) || (decide (j = F.N) && cN)) = atB r m j := by
 unfold atB;by_cases e1 : j = 0
 ·subst e1;rw [<- hc0];by_cases e2 : 0 = F.N
  ·rw [<- e2] at hcN;rw [<- hc0] at hcN;rw [hcN];simp
  ·simp [e2]
 ·by_cases e2 : j = F.N
  ·subst e2;rw [<- hcN];simp [e1]
  ·simp only [e1, e2, decide_false, Bool.false_and, Bool.or_false];cases hm : m j with
   | false => rfl
   | true =>
    cases hr : r j j with
    | false => rfl
    | true => exact absurd (at_ends hE h0 (hN j hm) hr) (by omega)
set_option maxRecDepth 100000 in
set_option maxHeartbeats 1000000 in
theorem empties_is {S : Nat -> Prop} {w : World} {fb L l : Nat} {F : FN} {x : Ix} (ha : Ask S fb F L l w x) {k : Nat} {d : ND} (hd : F.nds[k]? = some d) : Calls Tryz.prog 51 #[ptrV fb, .int .i64 (k : Int), x.v] w (RetI S F.N l (atB (F.rel d.t) x.mem) w) := by
 have hE := ha.fin.emp hd;have h0 := ha.fin.f0;have h3 := ha.fin.f3;have hkl : k < F.nds.length := (List.getElem?_eq_some_iff.1 hd).1;obtain ⟨g, o, hA, hgl, _, hc⟩ := ha.fin.cell hd;have hc := hc 10 (.int .u8 (d.e : Int)) rfl;rw [hA] at h3;obtain ⟨n, hn⟩ : ∃ n, n = F.nds.length := ⟨_, rfl⟩;rw [<- hn] at h3 hkl;have hkI : (k : Int) < (n : Int) := (by omega);have hk0 : (0 : Int) <= (k : Int) := (by omega);obtain ⟨m, hm⟩ : ∃ m, m = x.ws.length := ⟨_, rfl⟩;have hv : x.v = .agg #[.int .i64 (x.f : Int), .slice x.A m x.c] := (by unfold Ix.v; rw [hm]);rw [hv];have hand1 := bits_at hE.lt (show 0 < 4 by decide);rw [show ((2 ^ 0 : Nat) : Int) = 1 from rfl] at hand1;have hlf : fb < w.heap.size := lts ha.fin.obj;cases hw : d.e.testBit 0 with
 | true =>
  rw [hw, if_pos rfl] at hand1
  have HP := lh (show RetI S F.N l (atB (F.rel d.t) x.mem) w (.returned (.agg #[.int .i64 (x.f : Int), .slice x.A m x.c])) ((w.alloc (.cells #[.int .i64 (x.f : Int), .slice x.A m x.c] 68)).alloc (.cells #[.int .i64 (x.f : Int), .slice x.A m x.c] 68)) from by
   have hb : Below w.heap.size w ((w.alloc (.cells #[.int .i64 (x.f : Int), .slice x.A m x.c] 68)).alloc (.cells #[.int .i64 (x.f : Int), .slice x.A m x.c] 68)) := (bW w _).alloc (by simp) _;refine ⟨x, by rw [hv], ⟨ha.at'.stays hb, fun j => ?_, ha.low⟩, hb⟩;unfold atB;cases hx : x.mem j with
   | false => rfl
   | true => rw [at_all hE hw (ha.inN j hx)]; rfl)
  clear hE hd hA hn hv hw ha hm;unfold RetI at HP ⊢;go_enter Tryz.func51, Tryz.ntmps51;go_wp2_with fail;refine bodyPost_ret (v := .agg #[.int .i64 (x.f : Int), .slice x.A m x.c]) (by simp [results, Tryz.results51, go_sem]) rfl HP.out
 | false =>
  rw [hw, if_neg (by decide)] at hand1;obtain ⟨W, hW⟩ : ∃ W, W = ((w.alloc (.cells #[.int .i64 (x.f : Int), .slice x.A m x.c] 68)).alloc (.cells #[.int .i64 0, .slice none 0 0] 68)).alloc (.cells #[.int .i64 0, .slice none 0 0] 68) := ⟨_, rfl⟩;have hbW : Below w.heap.size w W := (by rw [hW]; exact two_below _ _ _ _);have hsW : W.heap.size = w.heap.size + 3 := (by rw [hW]; simp);have o5 : W.heap[w.heap.size]? = some (.cells #[.int .i64 (x.f : Int), .slice x.A m x.c] 68) := (by rw [hW]; exact old_obj' (old_obj' (heap_alloc_new w _) _) _);have o6 : W.heap[w.heap.size + 1]? = some (.cells #[.int .i64 0, .slice none 0 0] 68) := (by rw [hW]; exact old_obj' (by have := heap_alloc_new (w.alloc (.cells #[.int .i64 (x.f : Int), .slice x.A m x.c] 68)) (.cells #[.int .i64 0, .slice none 0 0] 68); rwa [World.size_alloc] at this) _);have o7 : W.heap[w.heap.size + 2]? = some (.cells #[.int .i64 0, .slice none 0 0] 68) := (by rw [hW]; have := heap_alloc_new ((w.alloc (.cells #[.int .i64 (x.f : Int), .slice x.A m x.c] 68)).alloc (.cells #[.int .i64 0, .slice none 0 0] 68)) (.cells #[.int .i64 0, .slice none 0 0] 68); rwa [World.size_alloc, World.size_alloc] at this);have HA := lh ha;have HD := lh hd;have HO := lh (aI o5 (aI o6 (aI o7 (aI hbW hsW))));have HAS := lh fun (j : Nat) (hj : j < 1099511627776) (V : World) (hV : Below w.heap.size w V) => has_ix (ha.at'.stays hV) (by have := ha.small; omega) j hj;have HEM := lh fun (j : Nat) (hj : j <= F.N) (V : World) (hV : Below w.heap.size w V) => emptyAt_is (ha.fin.below hV) hd j hj;have HE := lh (aI hE hw);rw [hv] at HAS;obtain ⟨c0, hc0⟩ : ∃ c, c = (x.mem 0 && F.rel d.t 0 0) := ⟨_, rfl⟩;obtain ⟨cN, hcN⟩ : ∃ c, c = (x.mem F.N && F.rel d.t F.N F.N) := ⟨_, rfl⟩;have HC := lh (aI hc0 (aI hcN hv));have HM := lh hm;clear hE hd hA hn hv hw ha hm hbW hsW o5 o6 o7 hc0 hcN;go_enter Tryz.func51, Tryz.ntmps51;go_upto_region 4 with fail;rw [<- hW];obtain ⟨p0, p1⟩ := two_cells HO.out.1;have ls0 : w.heap.size < W.heap.size := (by rw [HO.out.2.2.2.2]; omega);clear hW;have HCW := lh fun (V : World) (hV : Below W.heap.size W V) => HO.out.2.2.2.1.trans (hV.mono HO.out.2.2.2.1.size);clear h0 h3 hc hand1 hlf;go_cut [26] from 19 to 26 (fun t wx => t = .bool c0 /\ Below W.heap.size W wx)
  case first =>
   cases hx : x.mem 0 with
   | false =>
    have HX := lh hx;clear hx;go_wp2_with fail;go_at_call 57;refine (HAS.out 0 (by decide) _ (HCW.out _ (Below.refl _ _))).mono ?_;rintro e w1 ⟨rfl, hb1⟩;rw [HX.out];have HB1 := lh hb1;clear hb1;go_wp2_with fail;go_meet
    case rel => exact ⟨by rw [HC.out.1, HX.out]; rfl, HB1.out⟩
   | true =>
    have HX := lh hx;clear hx;go_wp2_with fail;go_at_call 57;refine (HAS.out 0 (by decide) _ (HCW.out _ (Below.refl _ _))).mono ?_;rintro e w1 ⟨rfl, hb1⟩;rw [HX.out];have HB1 := lh hb1;clear hb1;go_wp2_with fail;go_at_call 82;refine (HEM.out 0 (Nat.zero_le _) _ (HCW.out _ HB1.out)).mono ?_;rintro e w2 ⟨rfl, hb2⟩;have HB2 := lh (HB1.out.trans (hb2.mono HB1.out.size));clear hb2;obtain ⟨r0, hr0⟩ : ∃ r, r = F.rel d.t 0 0 := ⟨_, rfl⟩;rw [<- hr0];have HR := lh hr0;clear hr0;cases r0
    ·go_wp2_with fail;go_meet
     case rel => exact ⟨by rw [HC.out.1, HX.out, <- HR.out]; rfl, HB2.out⟩
    ·go_wp2_with fail;go_meet
     case rel => exact ⟨by rw [HC.out.1, HX.out, <- HR.out]; rfl, HB2.out⟩
  obtain ⟨rfl, hbc⟩ := hcut;have HBC := lh hbc;clear hbc
  go_upto_if 26 with fail
  go_cut [] from 27 to 27 (fun wx => EmM S F.N w (fun j => decide (j = 0) && c0) l x wx)
  case first =>
   cases c0
   ·go_wp2_with fail;go_meet
    case rel =>
     have hz := HO.out.2.2.2.2;refine ⟨HCW.out _ HBC.out, bobj HBC.out (HM.out ▸ HO.out.1) (by omega), bobj HBC.out HO.out.2.1 (by omega), ⟨0, [], none, 0⟩, bobj HBC.out HO.out.2.2.1 (by omega), ⟨.nil _ _ _, nlr _, (fun m h => by cases h), Nat.zero_le _⟩, fun j => ?_, .inl rfl⟩;rw [mem_nil _ rfl, Bool.and_false]
   ·have HX0 := lh (show x.mem 0 = true by have := HC.out.1; cases hx : x.mem 0 with | true => rfl | false => rw [hx] at this; cases this);go_wp2_with fail;go_at_call 30;refine (only_is 0 F.N (Nat.zero_le _) HA.out.small _).mono ?_;rintro e w1 ⟨y, he, hmade, hb1⟩;obtain ⟨ny, hny⟩ : ∃ n, n = y.ws.length := ⟨_, rfl⟩;have hvy : y.v = .agg #[.int .i64 (y.f : Int), .slice y.A ny y.c] := (by unfold Ix.v; rw [hny]);rw [hvy] at he;subst he;have hz := HO.out.2.2.2.2;have hb2 := HBC.out.trans (hb1.mono HBC.out.size);have q7 := bobj hb2 HO.out.2.2.1 (by omega);have hlt7 : w.heap.size + 2 < w1.heap.size := lts q7;have HY := lh (aI hmade (aI hb2 (aI hny q7)));obtain ⟨q70, q71⟩ := two_cells q7;have g70 : w1.frozen? ⟨w.heap.size + 2, 0, none⟩ = false := (by simp [World.frozen?, q7]);have g71 : w1.frozen? ⟨w.heap.size + 2, 1, none⟩ = false := (by simp [World.frozen?, q7]);clear hmade hb1 hb2 hny q7 hz hvy;go_wp2_with fail;go_meet
    case rel =>
     have hz := HO.out.2.2.2.2;obtain ⟨hp1, hp2⟩ := put_two (u' := .int .i64 (y.f : Int)) (v' := .slice y.A ny y.c) HY.out.2.2.2;have hbl : Below w.heap.size w1 ((w1.setCell ⟨w.heap.size + 2, 0, none⟩ (.int .i64 (y.f : Int))).setCell ⟨w.heap.size + 2, 1, none⟩ (.slice y.A ny y.c)) := hp2.to_below (by have := HY.out.2.1.size; omega) (fun k hk => by omega);refine ⟨(HCW.out _ HY.out.2.1).trans hbl, ?_, ?_, y, ?_, ?_, fun j => ?_, low_up HY.out.1.low (mem_low HA.out.low HX0.out)⟩
     ·exact hp2.obj (bobj HY.out.2.1 (HM.out ▸ HO.out.1) (by omega)) (by omega)
     ·exact hp2.obj (bobj HY.out.2.1 HO.out.2.1 (by omega)) (by omega)
     ·rw [<- HY.out.2.2.1]; exact hp1
     ·refine (HY.out.1.at'.turned (turned_mono hp2 fun k hk => ?_)).weaken fun k hk => ?_
      ·have := HBC.out.size; omega
      ·exact Pr.old HA.out.fin.old (by have := HBC.out.size; omega) hk
     ·rw [HY.out.1.is, Bool.and_true]
  have HK := lh hcut;obtain ⟨y, hy7, hyA, hyM, hyl⟩ := hcut.o7;obtain ⟨ny, hny⟩ : ∃ n, n = y.ws.length := ⟨_, rfl⟩;have hvy : y.v = .agg #[.int .i64 (y.f : Int), .slice y.A ny y.c] := (by unfold Ix.v; rw [hny]);rw [<- hny] at hy7;have h5 := hcut.o5;rw [<- HM.out] at h5;obtain ⟨a50, a51⟩ := two_cells h5;obtain ⟨a70, a71⟩ := two_cells hy7;have t0 := (HA.out.fin.below hcut.bel).f0;have ls5 := lts h5;have HY := lh (aI hyA (aI hyM (aI hyl (aI hvy (aI hny hy7)))));have hlN : F.s.size = F.N := rfl;have hb5 := hcut.bel;have h6 := hcut.o6;have HB5 := lh (aI hb5 h6);obtain ⟨N, hN⟩ : ∃ N, N = F.s.size := ⟨_, rfl⟩;have HN := lh (show N = F.N from hN);have hNI : (F.s.size : Int) = (N : Int) := (by rw [hN]);have hN5 : N <= 100000 := (by rw [hN]; exact HA.out.fin.small);clear hcut hyA hyM hyl hny h5 hy7 hvy hlN hb5 h6 hN;go_upto_region 7 with fail;have HCD := lh fun (V : World) (hV : Below wc.heap.size wc V) => HB5.out.1.trans (hV.mono HB5.out.1.size);rw [<- HN.out] at HC;go_cut [41] from 33 to 41 (fun t wx => t = .bool cN /\ Below wc.heap.size wc wx)
  case first =>
   cases hx : x.mem N with
   | false =>
    have HX := lh hx;clear hx;go_wp2_with fail;go_at_call 57;refine (HAS.out N (by omega) _ (HCD.out _ (Below.refl _ _))).mono ?_;rintro e w1 ⟨rfl, hb1⟩;rw [HX.out];have HB1 := lh hb1;clear hb1;go_wp2_with fail;go_meet
    case rel => exact ⟨by rw [HC.out.2.1, HX.out]; rfl, HB1.out⟩
   | true =>
    have HX := lh hx;clear hx;go_wp2_with fail;go_at_call 57;refine (HAS.out N (by omega) _ (HCD.out _ (Below.refl _ _))).mono ?_;rintro e w1 ⟨rfl, hb1⟩;rw [HX.out];have HB1 := lh hb1;clear hb1;go_wp2_with fail;go_at_call 82;refine (HEM.out N (Nat.le_of_eq HN.out) _ (HCD.out _ HB1.out)).mono ?_;rintro e w2 ⟨rfl, hb2⟩;have HB2 := lh (HB1.out.trans (hb2.mono HB1.out.size));clear hb2;obtain ⟨r0, hr0⟩ : ∃ r, r = F.rel d.t N N := ⟨_, rfl⟩;rw [<- hr0];have HR := lh hr0;clear hr0;cases r0
    ·go_wp2_with fail;go_meet
     case rel => exact ⟨by rw [HC.out.2.1, HX.out, <- HR.out]; rfl, HB2.out⟩
    ·go_wp2_with fail;go_meet
     case rel => exact ⟨by rw [HC.out.2.1, HX.out, <- HR.out]; rfl, HB2.out⟩
  obtain ⟨rfl, hbc⟩ := hcut;have hsz := Nat.le_trans (lts HY.out.2.2.2.2.2) (nlr _);have o6 := bobj hbc HB5.out.2 (lts HB5.out.2);have o7 := bobj hbc HY.out.2.2.2.2.2 (lts HY.out.2.2.2.2.2);have HZ := lh (aI (HCD.out _ hbc) (aI (HY.out.1.stays hbc) (aI o6 (aI o7 (lts o6)))));obtain ⟨a60, a61⟩ := two_cells o6;obtain ⟨b70, b71⟩ := two_cells o7;have hl6 := lts o6;have hl7 := lts o7;clear a50 a51 a70 a71 t0 ls5 ls0 p0 p1 hsz hbc o6 o7;have c6f : ∀ j, wc.frozen? ⟨w.heap.size + 1, j, none⟩ = false := fun j => by simp [World.frozen?, HZ.out.2.2.1]
  have c7f : ∀ j, wc.frozen? ⟨w.heap.size + 2, j, none⟩ = false := fun j => by simp [World.frozen?, HZ.out.2.2.2.1]
  have g60 := c6f 0;have g61 := c6f 1;have g70 := c7f 0;have g71 := c7f 1;clear c6f c7f;have hcN := HC.out.2.1;rw [HN.out] at hcN;cases cN
  ·have HP := lh (ret_box (Q := atB (F.rel d.t) x.mem) HZ.out.1 (show w.heap.size <= w.heap.size + 1 by omega) (by omega) HZ.out.2.1 HY.out.2.1 HY.out.2.2.1 (fun j => by
    rw [<- em_post HE.out.1 HE.out.2 HA.out.inN HC.out.1 hcN j, Bool.and_false, Bool.or_false]) HZ.out.2.2.1 HY.out.2.2.2.2.1)
   clear hcN;go_wp2_with fail;refine bodyPost_ret (v := .agg #[.int .i64 (y.f : Int), .slice y.A ny y.c]) (by simp [results, Tryz.results51, go_sem, a60, a61]) rfl HP.out
  ·have HLN := lh (show l / 64 <= N / 64 from mem_low HA.out.low (show x.mem N = true by rw [HN.out]; cases hx : x.mem F.N with | true => rfl | false => rw [hx] at hcN; cases hcN));have HCN := lh hcN
   have HJ := lh fun (V : World) (hV : Below wc.heap.size wc V) (y2 : Ix) (h2 : IxAt (fun k => k < wc.heap.size) F.N V y2) (hl2 : y2.low l) =>
    join_ix (S := Pr S w 3) (l := l) (fun k hk => Pr.old HA.out.fin.old (show w.heap.size + 3 <= V.heap.size by have := hV.size; omega) hk) HA.out.small (HZ.out.2.1.stays hV) (h2.weaken fun k hk => Pr.old HA.out.fin.old (show w.heap.size + 3 <= wc.heap.size by omega) hk) HY.out.2.2.1 hl2
   rw [HY.out.2.2.2.1] at HJ;have HB7 := lh fun (V : World) (hV : Below wc.heap.size wc V) => two_cells (bobj hV HZ.out.2.2.2.1 hl7);clear hcN;go_upto_region 8 with fail
   go_region_with (first
    | (go_at_call 30
       refine (only_is N F.N (Nat.le_of_eq HN.out) HA.out.small _).mono ?_;rintro e w1 ⟨y2, he, hmade, hb1⟩;obtain ⟨n2, hn2⟩ : ∃ n, n = y2.ws.length := ⟨_, rfl⟩;have hv2 : y2.v = .agg #[.int .i64 (y2.f : Int), .slice y2.A n2 y2.c] := (by unfold Ix.v; rw [hn2]);rw [hv2] at he;subst he;have hb2 : Below wc.heap.size wc w1 := (Below.refl wc.heap.size wc).drew.trans hb1;obtain ⟨e70, e71⟩ := HB7.out _ hb2;have HJ2 := lh (HJ.out w1 hb2 y2 hmade.at' (low_up hmade.low HLN.out));rw [hv2] at HJ2;have HY2 := lh (aI hmade hb2)
       clear hmade hb1 hb2 hn2 hv2)
    | (go_at_call 49
       refine HJ2.out.mono ?_;rintro e w2 ⟨y3, he, hmade3, hb3⟩;obtain ⟨n3, hn3⟩ : ∃ n, n = y3.ws.length := ⟨_, rfl⟩;have hv3 : y3.v = .agg #[.int .i64 (y3.f : Int), .slice y3.A n3 y3.c] := (by unfold Ix.v; rw [hn3]);rw [hv3] at he;subst he;have hb4 := HY2.out.2.trans (hb3.mono HY2.out.2.size);have p7 := bobj hb4 HZ.out.2.2.2.1 hl7;have p6 := bobj hb4 HZ.out.2.2.1 hl6;obtain ⟨j70, j71⟩ := two_cells p7;have jg0 : w2.frozen? ⟨w.heap.size + 2, 0, none⟩ = false := (by simp [World.frozen?, p7]);have jg1 : w2.frozen? ⟨w.heap.size + 2, 1, none⟩ = false := (by simp [World.frozen?, p7]);have jl7 := lts p7;have HY3 := lh (aI hmade3 (aI hb4 (aI p6 (aI p7 hn3))))
       clear hmade3 hb3 hb4 hn3 hv3 p6 p7))
   all_goals
    obtain ⟨w3, hw3⟩ : ∃ W, W = (w2.setCell ⟨w.heap.size + 2, 0, none⟩ (.int .i64 (y3.f : Int))).setCell ⟨w.heap.size + 2, 1, none⟩ (.slice y3.A n3 y3.c) := ⟨_, rfl⟩;rw [show w.heap.size + 1 + 1 = w.heap.size + 2 from rfl, <- hw3];obtain ⟨hp1, hp2⟩ := put_two (u' := .int .i64 (y3.f : Int)) (v' := .slice y3.A n3 y3.c) HY3.out.2.2.2.1;rw [<- hw3] at hp1 hp2;have hbl : Below w.heap.size w2 w3 := hp2.to_below (by have := HY3.out.2.1.size; omega) (fun k hk => by omega);have q6 := hp2.obj HY3.out.2.2.1 (by omega);have hP2 : ∀ j, y3.mem j = ((decide (j = 0) && c0) || decide (j = F.N)) := fun j => by rw [HY3.out.1.is, HY.out.2.1, HY2.out.1.is, HN.out]
    have HP := lh (ret_box (Q := atB (F.rel d.t) x.mem) ((HZ.out.1.trans (HY3.out.2.1.mono HZ.out.1.size)).trans hbl) (show w.heap.size <= w.heap.size + 1 by omega) (by omega) (HY3.out.1.at'.turned (turned_mono hp2 fun k hk => .inr (by omega))) hP2 HY3.out.1.low (fun j => by
     rw [<- em_post HE.out.1 HE.out.2 HA.out.inN HC.out.1 HCN.out j, Bool.and_true]) q6 HY3.out.2.2.2.2)
    obtain ⟨q60, q61⟩ := two_cells q6;obtain ⟨q70, q71⟩ := two_cells hp1;have qg0 : w3.frozen? ⟨w.heap.size + 1, 0, none⟩ = false := (by simp [World.frozen?, q6]);have qg1 : w3.frozen? ⟨w.heap.size + 1, 1, none⟩ = false := (by simp [World.frozen?, q6]);have ql6 := lts q6;clear hw3 hp1 hp2 hbl q6 hP2;go_wp2_with fail;refine bodyPost_ret (v := .agg #[.int .i64 (y3.f : Int), .slice y3.A n3 y3.c]) (by simp [results, Tryz.results51, go_sem, q60, q61]) rfl HP.out
open Go.RowKit Go.Deep Go.Sort
set_option maxRecDepth 100000 in
set_option maxHeartbeats 1000000 in
theorem ends_is {S : Nat -> Prop} {w : World} {fb L l : Nat} {F : FN} {x : Ix} (ha : Ask S fb F L l w x) {k : Nat} {d : ND} (hd : F.nds[k]? = some d) (hLC : LongC fb F k) : Calls Tryz.prog 29 #[ptrV fb, .int .i64 (k : Int), x.v] w (GotE S fb F L l (AllR L (F.rel d.t) x.mem) w) := by
 obtain ⟨m, hm⟩ : ∃ m, m = x.ws.length := ⟨_, rfl⟩;have hv : x.v = .agg #[.int .i64 (x.f : Int), .slice x.A m x.c] := (by unfold Ix.v; rw [hm]);rw [hv];obtain ⟨W, hW, hbW, hsW, o5, o6⟩ := two_boxes w (.int .i64 (x.f : Int)) (.slice x.A m x.c) 68 (.int .i64 0) (.slice none 0 0) 68;have hmb : F.mb < w.heap.size := ha.fin.kept.lt;have HA := lh ha;have HAW := lh (ha.pr 2 hbW (by omega));have HL := lh fun (V : World) (h : Ask (Pr S w 2) fb F L l V x) => hLC _ V L l x d h hd;have HE := lh fun (V : World) (h : Ask (Pr S w 2) fb F L l V x) => empties_is h hd;rw [hv] at HL HE;have HO := lh (aI o5 (aI o6 (aI hbW (aI hsW hmb))));have HM := lh hm;clear hm hv hd hLC ha hmb hbW hsW;go_enter Tryz.func29, Tryz.ntmps29;go_upto_region 1 with fail;rw [<- hW];clear hW;obtain ⟨p0, p1, _, _, pl⟩ := box_all o5;clear o5 o6
 go_region_with (first
  | (go_at_call 50
     refine (HL.out _ (HAW.out.below (Below.refl _ W).drew)).mono ?_;rintro e w1 ⟨y1, he, hg1⟩;obtain ⟨n1, hn1⟩ : ∃ n, n = y1.ws.length := ⟨_, rfl⟩;have hv1 : y1.v = .agg #[.int .i64 (y1.f : Int), .slice y1.A n1 y1.c] := (by unfold Ix.v; rw [hn1]);rw [hv1] at he;subst he;have q5 := hg1.tur.obj (k := w.heap.size) HO.out.1 (by have := HO.out.2.2.2.2; omega);obtain ⟨e0, e1, _, _, el⟩ := box_all q5;have HG1 := lh (aI hg1 (aI hv1 (hg1.ask (HAW.out.below (Below.refl _ W).drew))))
     clear hg1 hn1 hv1 q5)
  | (go_at_call 51
     refine (HE.out _ HG1.out.2.2).mono ?_;rintro e w2 ⟨y2, he, hm2, hb2⟩;obtain ⟨n2, hn2⟩ : ∃ n, n = y2.ws.length := ⟨_, rfl⟩;have hv2 : y2.v = .agg #[.int .i64 (y2.f : Int), .slice y2.A n2 y2.c] := (by unfold Ix.v; rw [hn2]);rw [hv2] at he;subst he;have HJ := lh (join_ix (S := Pr S w 2) (l := l) (a := y1) (b := y2) (w := w2) (fun k hk => Nat.lt_of_lt_of_le (HG1.out.2.2.fin.old k hk) hb2.size) HA.out.small (HG1.out.1.at'.stays hb2) hm2.at' HG1.out.1.low hm2.low);rw [hv2, HG1.out.2.1] at HJ;have HG2 := lh (aI hm2 hb2)
     clear hm2 hb2 hn2 hv2)
  | (go_at_call 49
     refine HJ.out.mono ?_;rintro e w3 ⟨y3, he, hm3, hb3⟩;obtain ⟨n3, hn3⟩ : ∃ n, n = y3.ws.length := ⟨_, rfl⟩;have hv3 : y3.v = .agg #[.int .i64 (y3.f : Int), .slice y3.A n3 y3.c] := (by unfold Ix.v; rw [hn3]);rw [hv3] at he;subst he;have hb23 : Below w1.heap.size w1 w3 := HG2.out.2.trans (hb3.mono HG2.out.2.size);have q6 := bobj hb23 (HG1.out.1.tur.obj (k := w.heap.size + 1) HO.out.2.1 (by have := HO.out.2.2.2.2; omega)) (by have := HG1.out.1.tur.size; have := HO.out.2.2.2.1; show _ < w1.heap.size; simp only [World.drew] at *; omega);obtain ⟨r0, r1, rg0, rg1, rl⟩ := box_all q6;have HG3 := lh (aI hm3 (aI hb23 (aI q6 hn3)))
     clear hm3 hb3 hn3 hv3 hb23 q6))
 all_goals
  have hmem : y3.mem = orB y1.mem (atB (F.rel d.t) x.mem) := funext fun j => by rw [HG3.out.1.is, HG2.out.1.is]; rfl
  have HP := lh (got_ret (b := w.heap.size + 1) (n0 := 2) (R := AllR L (F.rel d.t) x.mem) HA.out.fin (turBT (bDr HO.out.2.2.1) (turB HG1.out.1.tur HG3.out.2.1)) (by omega) (by omega) (HG1.out.1.fin.below HG3.out.2.1) HG3.out.1.at' (by rw [hmem]; exact HG1.out.1.is.all (F.fit d.t)) HG3.out.1.low HG3.out.2.2.1 HG3.out.2.2.2);clear hmem;go_wp2_with fail;refine bodyPost_ret (v := .agg #[.int .i64 (y3.f : Int), .slice y3.A n3 y3.c]) (by simp [results, Tryz.results29, go_sem, r0, r1]) rfl HP.out
open Go.RowKit Go.Deep Go.Sort
theorem FindAt.rel {S : Nat -> Prop} {w : World} {fb L : Nat} {F : FN} (h : FindAt S w fb F L) {k : Nat} {d : ND} (hd : F.nds[k]? = some d) : F.rel d.t = semK F.T F.b d.x.kind d.x.set d.x.lo d.x.hi (semL F.T F.b (kidsOf d.t)) := by
 have hn := h.dat k d hd;rw [hn.kind, hn.set, hn.lo, hn.hi];exact sem_cnt F.T F.b d.t
theorem FindAt.kid0 {S : Nat -> Prop} {w : World} {fb L : Nat} {F : FN} (h : FindAt S w fb F L) {k : Nat} {d : ND} (hd : F.nds[k]? = some d) (hk : d.x.kind = 4 \/ d.x.kind = 5) : ∃ q d', d.ks[0]? = some q /\ q < k /\ F.nds[q]? = some d' /\ headR (semL F.T F.b (kidsOf d.t)) = F.rel d'.t /\ kidsOf d.t = [d'.t] := by
 have hn := h.dat k d hd
 have hl : kidsOf d.t = [d.t.kids.headD nothing] := by
  unfold kidsOf kidsK;rw [<- hn.kind, if_neg (by omega), if_pos hk]
 have hlen : d.ks.length = 1 := (by rw [hn.len, hl]; rfl);obtain ⟨q, hq⟩ : ∃ q, d.ks[0]? = some q := ⟨d.ks[0]'(by omega), List.getElem?_eq_getElem _⟩;obtain ⟨h1, d', h2, h3⟩ := hn.kid 0 q hq
 have h4 : kidsOf d.t = [d'.t] := by
  rw [hl] at h3 ⊢;simpa using h3
 refine ⟨q, d', hq, h1, h2, ?_, h4⟩;rw [h4];simp only [semL, headR];rfl
def RunF (f : FuncId) : Prop := ∀ (args : Array Value) (W : World), (callFunc f args).run Tryz.prog W = .ok (.enter f args) W
set_option maxRecDepth 100000 in
theorem runF_one : RunF 70 := fun args W => by simp [go_sem]
def FlowC (fb : Nat) (F : FN) (k : Nat) : Prop := ∀ (S : Nat -> Prop) (w : World) (L l : Nat) (x : Ix) (d : ND), Ask S fb F L l w x -> F.nds[k]? = some d ->
 ∃ fid bs, d.fn = funV fid bs /\ RunF fid /\ Calls Tryz.prog fid (#[x.v] ++ bs) w (GotE S fb F L l (EndsR L (F.rel d.t) x.mem) w)
set_option maxRecDepth 100000 in
set_option maxHeartbeats 1000000 in
theorem flow_none {S : Nat -> Prop} {w : World} {fb L l : Nat} {F : FN} {x : Ix} (ha : Ask S fb F L l w x) {k : Nat} {d : ND} (hd : F.nds[k]? = some d) (h1 : d.x.kind ≠ 1) (h2 : d.x.kind ≠ 2) (h3 : d.x.kind ≠ 3) (h4 : d.x.kind ≠ 4) (h5 : d.x.kind ≠ 5) :
  Calls Tryz.prog 76 #[x.v] w (GotE S fb F L l (EndsR L (F.rel d.t) x.mem) w) := by
 obtain ⟨m, hm⟩ : ∃ m, m = x.ws.length := ⟨_, rfl⟩;have hv : x.v = .agg #[.int .i64 (x.f : Int), .slice x.A m x.c] := (by unfold Ix.v; rw [hm]);rw [hv];obtain ⟨W, hW, hbW, hsW, o5, o6⟩ := two_boxes w (.int .i64 (x.f : Int)) (.slice x.A m x.c) 68 (.int .i64 0) (.slice none 0 0) 68
 have hR : EndsR L (F.rel d.t) x.mem noneB := by
  rw [ha.fin.rel hd];refine EndsR.none fun i j hij => ?_;unfold semK;rw [if_neg h1, if_neg h2, if_neg h3, if_neg h4, if_neg h5];have e : (i == j) = false := (by rw [beq_eq_false_iff_ne]; omega);split
  ·cases hc : (i == 0 && j == 0 && F.b) with
   | false => exact hc
   | true => simp at hc; omega
  ·split
   ·cases hc : (i == F.T.length && j == F.T.length) with
    | false => exact hc
    | true => simp at hc; omega
   ·exact e
 have hW2 : W = (w.alloc (.cells #[.int .i64 (x.f : Int), .slice x.A m x.c] 68)).alloc (.cells #[.int .i64 0, .slice none 0 0] 68) := hW
 have HP := lh (show GotE S fb F L l (EndsR L (F.rel d.t) x.mem) w (.returned (.agg #[.int .i64 0, .slice none 0 0])) W from
  ⟨⟨0, [], none, 0⟩, rfl, ⟨.nil _ _ _, nlr _, (fun m h => by cases h), Nat.zero_le _⟩, by
   have : (⟨0, [], none, 0⟩ : Ix).mem = noneB := funext fun j => mem_nil _ rfl j
   rw [this]; exact hR, .inl rfl, ha.fin.below hbW, Turned.of_below hbW⟩)
 rw [hW] at HP;clear hm hv hd ha hbW hsW o5 o6 hR hW hW2 h1 h2 h3 h4 h5;go_enter Tryz.func76, Tryz.ntmps76;go_wp2_with fail;refine bodyPost_ret (v := .agg #[.int .i64 0, .slice none 0 0]) (by simp [results, Tryz.results76, go_sem]) rfl HP.out
set_option maxRecDepth 100000 in
set_option maxHeartbeats 1000000 in
theorem flow_grp {S : Nat -> Prop} {w : World} {fb L l : Nat} {F : FN} {x : Ix} (ha : Ask S fb F L l w x) {k b1 b2 : Nat} {d : ND} (hd : F.nds[k]? = some d) (hk : d.x.kind = 5) (hb1 : BoxO S w b1 #[ptrV fb] 62) (hb2 : BoxO S w b2 d.bare 106) (hLC : ∀ q, q < k -> LongC fb F q) :
  Calls Tryz.prog 74 #[x.v, ptrV b1, ptrV b2] w (GotE S fb F L l (EndsR L (F.rel d.t) x.mem) w) := by
 obtain ⟨q, d', hq, hqk, hd', hrel, _⟩ := ha.fin.kid0 hd (.inr hk)
 have hR : F.rel d.t = F.rel d'.t := by
  rw [ha.fin.rel hd, hk, <- hrel];rfl
 rw [hR];obtain ⟨m, hm⟩ : ∃ m, m = x.ws.length := ⟨_, rfl⟩;have hv : x.v = .agg #[.int .i64 (x.f : Int), .slice x.A m x.c] := (by unfold Ix.v; rw [hm]);rw [hv];obtain ⟨W, hW, hbW, hsW, o5, o6⟩ := two_boxes w (.int .i64 (x.f : Int)) (.slice x.A m x.c) 68 (.int .i64 0) (.slice none 0 0) 68;have hmb : F.mb < w.heap.size := ha.fin.kept.lt;have HA := lh ha;have HAW := lh (ha.pr 2 hbW (by omega));have HL := lh fun (V : World) (h : Ask (Pr S w 2) fb F L l V x) => hLC q hqk _ V L l x d' h hd';rw [hv] at HL;have HO := lh (aI o5 (aI o6 (aI hbW (aI hsW hmb))));have HM := lh hm;have c1 : W.cell? ⟨b1, 0, none⟩ = some (ptrV fb) := (by rw [obc (bobj hbW hb1.1 (lts hb1.1))]; rfl);have c2 : W.cell? ⟨b2, 9, none⟩ = some (.slice d.kA d.ks.length d.kc) := (by rw [obc (bobj hbW hb2.1 (lts hb2.1))]; rfl);obtain ⟨g, o, hA, hgl, hc⟩ := (ha.fin.mem k d hd).kids.cell (intsV_at hq);have c3 : W.cell? ⟨g, o, none⟩ = some (.int .i64 (q : Int)) := (hbW.cell hgl).trans hc;rw [hA] at c2;obtain ⟨nk, hnk⟩ : ∃ n, n = d.ks.length := ⟨_, rfl⟩;have hnk0 : (0 : Int) < (nk : Int) := (by have := (List.getElem?_eq_some_iff.1 hq).1; omega);have hnk1 : 0 < nk := (by omega);rw [<- hnk] at c2;clear hm hv hd hLC ha hmb hbW hsW hb1 hb2 hq hqk hd' hrel hR hnk hA hc hk;go_enter Tryz.func74, Tryz.ntmps74;go_upto_region 1 with fail;rw [<- hW];clear hW;obtain ⟨p0, p1, _, _, pl⟩ := box_all o5;clear o5 o6
 go_region_with (first
  | (go_at_call 50
     refine (HL.out _ (HAW.out.below (Below.refl _ W).drew)).mono ?_;rintro e w1 ⟨y1, he, hg1⟩;obtain ⟨n1, hn1⟩ : ∃ n, n = y1.ws.length := ⟨_, rfl⟩;have hv1 : y1.v = .agg #[.int .i64 (y1.f : Int), .slice y1.A n1 y1.c] := (by unfold Ix.v; rw [hn1]);rw [hv1] at he;subst he;have q6 := hg1.tur.obj (k := w.heap.size + 1) HO.out.2.1 (by have := HO.out.2.2.2.2; omega);obtain ⟨r0, r1, rg0, rg1, rl⟩ := box_all q6;have HG1 := lh (aI hg1 (aI hn1 q6))
     clear hg1 hn1 hv1 q6))
 all_goals
  have HP := lh (got_ret (b := w.heap.size + 1) (n0 := 2) HA.out.fin (turBT (bDr HO.out.2.2.1) HG1.out.1.tur) (by omega) (by omega) HG1.out.1.fin HG1.out.1.at' HG1.out.1.is HG1.out.1.low HG1.out.2.2 HG1.out.2.1);go_wp2_with fail;refine bodyPost_ret (v := .agg #[.int .i64 (y1.f : Int), .slice y1.A n1 y1.c]) (by simp [results, Tryz.results74, go_sem, r0, r1]) rfl HP.out
set_option maxRecDepth 100000 in
set_option maxHeartbeats 1000000 in
theorem flow_spr {S : Nat -> Prop} {w : World} {fb L l : Nat} {F : FN} {x : Ix} (ha : Ask S fb F L l w x) {b1 b2 q : Nat} {d' : ND} {r : Rel} (hd' : F.nds[q]? = some d') (hR : ∀ i j, i <= F.N -> i < j -> (F.rel d'.t i j = true ↔ r i j = true)) (hb1 : BoxO S w b1 #[ptrV fb] 62) (hb2 : BoxO S w b2 #[.int .i64 (q : Int)] 3) (hLC : LongC fb F q) :
  Calls Tryz.prog 99 #[x.v, ptrV b1, ptrV b2] w (GotE S fb F L l (EndsR L r x.mem) w) := by
 obtain ⟨m, hm⟩ : ∃ m, m = x.ws.length := ⟨_, rfl⟩;have hv : x.v = .agg #[.int .i64 (x.f : Int), .slice x.A m x.c] := (by unfold Ix.v; rw [hm]);rw [hv];obtain ⟨W, hW, hbW, hsW, o5, o6⟩ := two_boxes w (.int .i64 (x.f : Int)) (.slice x.A m x.c) 68 (.int .i64 0) (.slice none 0 0) 68;have hmb : F.mb < w.heap.size := ha.fin.kept.lt;have HA := lh ha;have HAW := lh (ha.pr 2 hbW (by omega));have HL := lh fun (V : World) (h : Ask (Pr S w 2) fb F L l V x) => hLC _ V L l x d' h hd';rw [hv] at HL;have HO := lh (aI o5 (aI o6 (aI hbW (aI hsW hmb))));have HRR := lh hR;have c1 : W.cell? ⟨b1, 0, none⟩ = some (ptrV fb) := (by rw [obc (bobj hbW hb1.1 (lts hb1.1))]; rfl);have c2 : W.cell? ⟨b2, 0, none⟩ = some (.int .i64 (q : Int)) := (by rw [obc (bobj hbW hb2.1 (lts hb2.1))]; rfl);clear hm hv hLC ha hmb hbW hsW hb1 hb2 hd' hR;go_enter Tryz.func99, Tryz.ntmps99;go_upto_region 1 with fail;rw [<- hW];clear hW;obtain ⟨p0, p1, _, _, pl⟩ := box_all o5;clear o5 o6;go_wp2_with fail;go_at_call 50;refine (HL.out _ HAW.out).mono ?_;rintro e w1 ⟨y1, he, hg1⟩;obtain ⟨n1, hn1⟩ : ∃ n, n = y1.ws.length := ⟨_, rfl⟩;have hv1 : y1.v = .agg #[.int .i64 (y1.f : Int), .slice y1.A n1 y1.c] := (by unfold Ix.v; rw [hn1]);rw [hv1] at he;subst he;have q6 := hg1.tur.obj (k := w.heap.size + 1) HO.out.2.1 (by have := HO.out.2.2.2.2; omega);obtain ⟨r0, r1, rg0, rg1, rl⟩ := box_all q6;have HP := lh (got_ret (b := w.heap.size + 1) (n0 := 2) (R := EndsR L r x.mem) HA.out.fin (turBT HO.out.2.2.1 hg1.tur) (by omega) (by omega) hg1.fin hg1.at' (hg1.is.rel HA.out.inN HRR.out) hg1.low q6 hn1);clear hg1 hn1 hv1 q6 c1 c2 p0 p1;go_wp2_with fail;refine bodyPost_ret (v := .agg #[.int .i64 (y1.f : Int), .slice y1.A n1 y1.c]) (by simp [results, Tryz.results99, go_sem, r0, r1]) rfl HP.out
open Go.RowKit Go.Deep Go.Sort
theorem FlowC.all {fb : Nat} {F : FN} {k : Nat} (h : FlowC fb F k) {S : Nat -> Prop} {w : World} {L l : Nat} {x : Ix} {d : ND} (ha : Ask S fb F L l w x) (hd : F.nds[k]? = some d) : ∃ fid bs, d.fn = funV fid bs /\ RunF fid ∧
  ∀ (S : Nat -> Prop) (w : World) (L l : Nat) (x : Ix), Ask S fb F L l w x -> Calls Tryz.prog fid (#[x.v] ++ bs) w (GotE S fb F L l (EndsR L (F.rel d.t) x.mem) w) := by
 obtain ⟨fid, bs, hfn, hrf, _⟩ := h S w L l x d ha hd;refine ⟨fid, bs, hfn, hrf, fun S' w' L' l' x' ha' => ?_⟩;obtain ⟨fid', bs', hfn', _, hc⟩ := h S' w' L' l' x' d ha' hd;rw [hfn] at hfn';injection hfn' with h1 _ h2;injection h1 with h1;subst h1 h2;exact hc
theorem FindAt.keep {S : Nat -> Prop} {w w' : World} {fb L : Nat} {F : FN} (h : FindAt S w fb F L) (ht : Turned (· = F.mb) w w') (hk : KeptAt w' F.mb F.nds.length F.N (KeptQ S w F L)) : FindAt S w' fb F L := by
 have hTS : ∀ k, k = F.mb -> S k := fun k hk => by rw [hk]; exact h.sm
 have key : ∀ {A : Option Addr} {vs : List Value}, OffAt S w A vs -> OffAt S w' A vs := fun {A vs} ho => ho.turned (turned_mono ht hTS);refine ⟨fun k hk => Nat.lt_of_lt_of_le (h.old k hk) ht.size, h.sm, h.sf, h.ne, ht.obj h.obj h.ne, key h.row, h.cap, h.dat, fun k d hd => (h.mem k d hd).turned ht hTS, ?_, h.deb.turned ht fun hg => h.gdeb (hTS _ hg), h.gdeb, h.small, h.few, h.lim⟩;exact hk.same rfl fun k i X hq => ⟨⟨key hq.at'.off, hq.at'.cap, hq.at'.ok, hq.at'.fits⟩, hq.low, hq.is⟩
def FromM (S : Nat -> Prop) (fb : Nat) (F : FN) (L i : Nat) (d : ND) (w wx : World) : Prop := ∃ y : Ix, Got (Pr S w 2) fb F L i (EndsR L (F.rel d.t) (onlyB i)) w wx y /\ wx.heap[w.heap.size]? = some (.cells #[.int .i64 0, .slice none 0 0] 68 (0, 0)) ∧
 wx.heap[w.heap.size + 1]? = some (.cells #[.int .i64 (y.f : Int), .slice y.A y.ws.length y.c] 68 (0, 0))
def FromC (fb : Nat) (F : FN) (k : Nat) : Prop := ∀ (S : Nat -> Prop) (w : World) (L i : Nat) (d : ND), FindAt S w fb F L -> F.nds[k]? = some d -> i <= F.N ->
 Calls Tryz.prog 81 #[ptrV fb, .int .i64 (k : Int), .int .i64 (i : Int)] w (GotE S fb F L i (EndsR L (F.rel d.t) (onlyB i)) w)
set_option maxRecDepth 100000 in
set_option maxHeartbeats 2000000 in
theorem from_is {fb : Nat} {F : FN} {k : Nat} (hFC : FlowC fb F k) : FromC fb F k := by
 intro S w L i d ha hd hi;have hmb : F.mb < w.heap.size := ha.kept.lt;have hkl : k < F.nds.length := (List.getElem?_eq_some_iff.1 hd).1;have hfew := ha.few;have hsm := ha.small;have HA := lh ha;obtain ⟨W, hW⟩ : ∃ W, W = w.alloc (.cells #[.int .i64 0, .slice none 0 0] 68) := ⟨_, rfl⟩;have hbW : Below w.heap.size w W := (by rw [hW]; exact bW w _);have hsW : W.heap.size = w.heap.size + 1 := (by rw [hW]; simp);have o6 : W.heap[w.heap.size]? = some (.cells #[.int .i64 0, .slice none 0 0] 68 (0, 0)) := (by rw [hW]; exact heap_alloc_new w _);have HAW := lh (ha.pr 1 hbW (by omega));have f4 := HAW.out.f4;have HD := lh hd;rcases HAW.out.kept.look (k := k) (i := i) (by omega) (by omega) with hlook | ⟨X, hX, hlook⟩
 ·obtain ⟨W2, hW2⟩ : ∃ W2, W2 = W.alloc (.cells #[.int .i64 0, .slice none 0 0] 68) := ⟨_, rfl⟩;have hb2 : Below w.heap.size w W2 := (by rw [hW2]; exact hbW.alloc (by omega) _);have hs2 : W2.heap.size = w.heap.size + 2 := (by rw [hW2]; simp [hsW]);have o6' : W2.heap[w.heap.size]? = some (.cells #[.int .i64 0, .slice none 0 0] 68 (0, 0)) := (by rw [hW2]; exact old_obj' o6 _);have o7 : W2.heap[w.heap.size + 1]? = some (.cells #[.int .i64 0, .slice none 0 0] 68 (0, 0)) := (by rw [hW2, <- hsW]; exact heap_alloc_new W _);have HAV := lh (ha.pr 2 hb2 (by omega));obtain ⟨fid, bs, hfn, hrf, hcall⟩ := hFC.all (S := S) (w := w) (L := L) (l := 0) (x := ⟨0, [], none, 0⟩) (d := d) ⟨ha, ⟨.nil _ _ _, nlr _, (fun m h => by cases h), Nat.zero_le _⟩, (fun j hj => by rw [mem_nil _ rfl] at hj; cases hj), .inl rfl⟩ hd;have HC := lh fun (V : World) (h : FindAt (Pr S w 2) V fb F L) (y : Ix) (hy : MadeI (fun k => k < W2.drew.heap.size) F.N i W2.drew V y (fun j => decide (j = i))) => hcall (Pr S w 2) V L i y ⟨h, hy.at'.weaken fun k hk => by have := HAV.out.old k hk; exact this, (fun j hj => by rw [hy.is] at hj; have := of_decide_eq_true hj; omega), hy.low⟩;obtain ⟨g, o, hA, hgl, _, hc⟩ := ha.cell hd;have c12 : W2.cell? ⟨g, o + k * 13 + 12, none⟩ = some (funV fid bs) := (hb2.cell hgl).trans ((hc 12 d.fn rfl).trans (by rw [hfn]));have f3 := HAV.out.f3;rw [hA] at f3;obtain ⟨nn, hnn⟩ : ∃ n, n = F.nds.length := ⟨_, rfl⟩;rw [<- hnn] at f3;have hkI : (k : Int) < (nn : Int) := (by omega);have hk0 : (0 : Int) <= (k : Int) := (by omega);have HO := lh (aI o6' (aI o7 (aI hb2 (aI hs2 hmb))));unfold keyV at hlook;have HI := lh hi;unfold RunF at hrf;clear hbW o6 hd hkl hfew hsm ha hb2 o6' hcall hA hgl hc hnn hfn hi;go_enter Tryz.func81, Tryz.ntmps81;go_upto_region 1 with fail;rw [<- hW];clear hW;go_upto_region 3 with fail;rw [<- hW2];clear hW2 hsW hlook f4;obtain ⟨q0, q1, g0, g1, ql⟩ := box_all o7;clear o7;go_cut [] from 22 to 32 (fun wx => FromM S fb F L i d w wx)
  case first =>
   go_region_with (first
    | (go_at_call 30
       refine (only_is i F.N HI.out (by have := HA.out.small; omega) _).mono ?_;rintro e w1 ⟨y1, he, hm1, hb1⟩;obtain ⟨n1, hn1⟩ : ∃ n, n = y1.ws.length := ⟨_, rfl⟩;have hv1 : y1.v = .agg #[.int .i64 (y1.f : Int), .slice y1.A n1 y1.c] := (by unfold Ix.v; rw [hn1]);rw [hv1] at he;subst he;have hb2 := (Below.refl W2.heap.size W2).drew.trans hb1;have e3 := (hb2.cell (World.block_lt_of_cell? _ _ f3)).trans f3;have e12 := (hb2.cell (World.block_lt_of_cell? _ _ c12)).trans c12;have HC1 := lh (HC.out w1 (HAV.out.below hb2) y1 hm1);rw [hv1] at HC1;have HM1 := lh (aI hm1 hb2)
       clear hm1 hb1 hn1 hv1 hb2)
    | (refine HC1.out.mono ?_
       rintro e w2 ⟨y2, he, hg2⟩;obtain ⟨n2, hn2⟩ : ∃ n, n = y2.ws.length := ⟨_, rfl⟩;have hv2 : y2.v = .agg #[.int .i64 (y2.f : Int), .slice y2.A n2 y2.c] := (by unfold Ix.v; rw [hn2]);rw [hv2] at he;subst he;have p7 := hg2.tur.obj (bobj HM1.out.2 HO.out.2.1 (by have := HO.out.2.2.2.1; omega)) (by have := HO.out.2.2.2.2; omega);have p6 := hg2.tur.obj (bobj HM1.out.2 HO.out.1 (by have := HO.out.2.2.2.1; omega)) (by have := HO.out.2.2.2.2; omega);obtain ⟨r0, r1, rg0, rg1, rl⟩ := box_all p7;have HG2 := lh (aI hg2 (aI hn2 (aI p6 p7)))
       clear hg2 hn2 hv2 p6 p7))
   all_goals
    go_wp2_with fail;go_meet
    case rel =>
     obtain ⟨hp1, hp2⟩ := put_two (u' := .int .i64 (y2.f : Int)) (v' := .slice y2.A n2 y2.c) HG2.out.2.2.2;have hmem : y1.mem = onlyB i := funext fun j => HM1.out.1.is j;have hg := HG2.out.1;rw [hmem] at hg;have hg' : Got (Pr S w 2) fb F L i (EndsR L (F.rel d.t) (onlyB i)) w w2 y2 := ⟨hg.at', hg.is, hg.low, hg.fin, turBT (HO.out.2.2.1.trans (HM1.out.2.mono HO.out.2.2.1.size)) hg.tur⟩;exact ⟨y2, got_put HA.out hg' hp2 (by omega) (by omega), hp2.obj HG2.out.2.2.1 (by omega), by rw [<- HG2.out.2.1]; exact hp1⟩
  obtain ⟨y, hg, h6, h7⟩ := hcut;have hgf := hg.fin;have hfew := hgf.few;have hsm := hgf.small;have hkl : k < F.nds.length := (List.getElem?_eq_some_iff.1 HD.out).1;obtain ⟨w', hst, hkept, htur⟩ := KeptAt.store (w := wc.drew) (X := y) (k := k) (i := i) (hgf.kept.same rfl fun _ _ _ h => h) hkl HI.out (by omega) (by omega) (show KeptQ (Pr S w 2) wc F L k i y from ⟨hg.at', hg.low, d, HD.out, hg.is⟩);have hturW : Turned (· = F.mb) wc w' := ⟨htur.os, htur.tape, htur.output, htur.size, htur.block⟩;have hmb7 : ¬ w.heap.size + 1 = F.mb := (by have := HO.out.2.2.2.2; omega);have hmb6 : ¬ w.heap.size = F.mb := (by have := HO.out.2.2.2.2; omega);have h6' := hturW.obj h6 hmb6;have h7' := hturW.obj h7 hmb7;have f4 := hgf.f4;obtain ⟨n, hn⟩ : ∃ n, n = y.ws.length := ⟨_, rfl⟩;have hv : y.v = .agg #[.int .i64 (y.f : Int), .slice y.A n y.c] := (by unfold Ix.v; rw [hn]);rw [hv] at hst;unfold keyV at hst;rw [<- hn] at h7 h7';obtain ⟨a0, a1, _, _, al⟩ := box_all h7;obtain ⟨b0, b1, _, _, bl⟩ := box_all h7';obtain ⟨r0, r1, rg0, rg1, rl⟩ := box_all h6';have HP := lh (got_ret (b := w.heap.size) (n0 := 2) (R := EndsR L (F.rel d.t) (onlyB i)) HA.out (turT hg.tur hturW) (nlr _) (by omega) (hgf.keep hturW hkept) (hg.at'.turned (turned_mono hturW fun k hk => by rw [hk]; exact hgf.sm)) hg.is hg.low h6' hn);clear hg h6 h7 hgf hfew hsm hkl hkept htur hturW hmb7 hmb6 h6' h7' hn hv f3 c12;go_upto_region 4 with fail
  go_region
  all_goals
   go_wp2_with fail;refine bodyPost_ret (v := .agg #[.int .i64 (y.f : Int), .slice y.A n y.c]) (by simp [results, Tryz.results81, go_sem, r0, r1]) rfl HP.out
 ·obtain ⟨n, hn⟩ : ∃ n, n = X.ws.length := ⟨_, rfl⟩;have hv : X.v = .agg #[.int .i64 (X.f : Int), .slice X.A n X.c] := (by unfold Ix.v; rw [hn]);rw [hv] at hlook;unfold keyV at hlook
  have HR := lh (show EndsR L (F.rel d.t) (onlyB i) X.mem by
   obtain ⟨d2, h1, h2⟩ := hX.is;rw [hd] at h1;injection h1 with h1
   rw [h1]; exact h2)
  have HX := lh hX;have HN := lh hn;have HO := lh (aI o6 (aI hbW (aI hsW hmb)));obtain ⟨q0, q1, g0, g1, ql⟩ := box_all o6;clear hn hv hX hd hkl hfew hsm ha hmb hbW hsW o6;go_enter Tryz.func81, Tryz.ntmps81;go_upto_region 1 with fail;rw [<- hW];clear hW;go_wp2_with fail;have HP := lh ((got_ret (b := w.heap.size) (n0 := 1) (R := EndsR L (F.rel d.t) (onlyB i)) HA.out (Turned.of_below HO.out.2.1) (nlr _) (by omega) HAW.out HX.out.at' HR.out HX.out.low HO.out.1 HN.out).alloc (.cells #[.int .i64 (X.f : Int), .slice X.A n X.c] 68));refine bodyPost_ret (v := .agg #[.int .i64 (X.f : Int), .slice X.A n X.c]) (by simp [results, Tryz.results81, go_sem, q0, q1, ql]) rfl HP.out
open Go.RowKit Go.Deep Go.Sort
set_option maxRecDepth 100000 in
set_option maxHeartbeats 4000000 in
theorem long_is {fb : Nat} {F : FN} {k : Nat} (hFC : FlowC fb F k) : LongC fb F k := by
 intro S w L l x d ha hd;obtain ⟨m, hm⟩ : ∃ m, m = x.ws.length := ⟨_, rfl⟩;have hv : x.v = .agg #[.int .i64 (x.f : Int), .slice x.A m x.c] := (by unfold Ix.v; rw [hm]);rw [hv];obtain ⟨W, hW, hbW, hsW, o5, o6⟩ := two_boxes w (.int .i64 (x.f : Int)) (.slice x.A m x.c) 68 (.int .i64 0) (.slice none 0 0) 68;have hmb : F.mb < w.heap.size := ha.fin.kept.lt;have hkl : k < F.nds.length := (List.getElem?_eq_some_iff.1 hd).1;have HA := lh ha;have HAW := lh (ha.pr 2 hbW (by omega));obtain ⟨fid, bs, hfn, hrf, hcall⟩ := hFC.all ha hd;have HC := lh fun (V : World) (h : Ask (Pr S w 2) fb F L l V x) => hcall (Pr S w 2) V L l x h;rw [hv] at HC;have HAL := lh (alone_ix (w := W) HAW.out.at' (by have := ha.small; omega) HAW.out.fin.deb);rw [hv] at HAL;have HFR := lh fun (V : World) (h : FindAt (Pr S w 2) V fb F L) (i : Nat) (hi : i <= F.N) => from_is hFC (Pr S w 2) V L i d h hd hi;have HO := lh (aI o5 (aI o6 (aI hbW (aI hsW hmb))));obtain ⟨g, o, hA, hgl, _, hc⟩ := ha.fin.cell hd;have c12 : W.cell? ⟨g, o + k * 13 + 12, none⟩ = some (funV fid bs) := (hbW.cell hgl).trans ((hc 12 d.fn rfl).trans (by rw [hfn]));have c0 : W.cell? ⟨g, o + k * 13, none⟩ = some (.int .i64 d.x.kind) := (hbW.cell hgl).trans (hc 0 _ rfl);have f3 := HAW.out.fin.f3;rw [hA] at f3;obtain ⟨nn, hnn⟩ : ∃ n, n = F.nds.length := ⟨_, rfl⟩;rw [<- hnn] at f3;have hkI : (k : Int) < (nn : Int) := (by omega);have hk0 : (0 : Int) <= (k : Int) := (by omega);obtain ⟨p0, p1, _, _, pl⟩ := box_all o5;unfold RunF at hrf;clear hm hv hd hFC ha hmb hbW hsW hcall hA hgl hc hnn hfn hkl o5 o6;by_cases hk2 : d.x.kind = 2
 ·have e2 : d.x.kind = 2 := hk2;rw [e2] at c0;clear hk2 e2;go_enter Tryz.func50, Tryz.ntmps50;go_upto_region 1 with fail;rw [<- hW];clear hW;go_wp2_with fail;go_at_call 80;refine HAL.out.mono ?_;rintro e w1 ⟨r, b, rfl, hal, hb1⟩;have HQ := lh hb1;cases b with
  | true =>
   obtain ⟨j, rfl, hj, hall⟩ := hal rfl;have HJ := lh (aI hj hall);have HF := lh (HFR.out w1 (HAW.out.fin.below hb1) j (HA.out.inN j hj));clear hal hb1 hj hall c0 c12 p0 p1 f3;go_wp2_with fail;go_at_call 81;refine HF.out.mono ?_;rintro e w2 ⟨y2, he, hg2⟩;obtain ⟨n2, hn2⟩ : ∃ n, n = y2.ws.length := ⟨_, rfl⟩;have hv2 : y2.v = .agg #[.int .i64 (y2.f : Int), .slice y2.A n2 y2.c] := (by unfold Ix.v; rw [hn2]);rw [hv2] at he;subst he;have q6 := hg2.tur.obj (bobj HQ.out HO.out.2.1 (by have := HO.out.2.2.2.1; omega)) (by have := HO.out.2.2.2.2; omega);obtain ⟨r0, r1, rg0, rg1, rl⟩ := box_all q6
   have hmem : onlyB j = x.mem := funext fun i => by
    cases hi : x.mem i with
    | true => rw [HJ.out.2 i hi]; exact onlyB_iff.2 rfl
    | false =>
     cases ho : onlyB j i with
     | false => rfl
     | true => rw [onlyB_iff.1 ho, HJ.out.1] at hi; cases hi
   have HP := lh (got_ret (b := w.heap.size + 1) (n0 := 2) (R := EndsR L (F.rel d.t) x.mem) HA.out.fin (turBT (HO.out.2.2.1.trans (HQ.out.mono HO.out.2.2.1.size)) hg2.tur) (by omega) (by omega) hg2.fin hg2.at' (by rw [<- hmem]; exact hg2.is) (low_up hg2.low (mem_low HA.out.low HJ.out.1)) q6 hn2);clear hg2 hn2 hv2 q6 hmem;go_wp2_with fail;refine bodyPost_ret (v := .agg #[.int .i64 (y2.f : Int), .slice y2.A n2 y2.c]) (by simp [results, Tryz.results50, go_sem, r0, r1]) rfl HP.out
  | false =>
   clear hal hb1 c0 f3;obtain ⟨s0, s1, _, _, sl⟩ := box_all (bobj HQ.out HO.out.1 (by have := HO.out.2.2.2.1; omega));have t12 := (HQ.out.cell (World.block_lt_of_cell? _ _ c12)).trans c12;have HCQ := lh (HC.out _ (HAW.out.below (bDr HQ.out)));clear c12 p0 p1 pl;go_upto_region 9 with fail
   go_region_with (refine HCQ.out.mono ?_
                   rintro e w2 ⟨y2, he, hg2⟩;obtain ⟨n2, hn2⟩ : ∃ n, n = y2.ws.length := ⟨_, rfl⟩;have hv2 : y2.v = .agg #[.int .i64 (y2.f : Int), .slice y2.A n2 y2.c] := (by unfold Ix.v; rw [hn2]);rw [hv2] at he;subst he;have q6 := hg2.tur.obj (bobj HQ.out HO.out.2.1 (by have := HO.out.2.2.2.1; omega)) (by have := HO.out.2.2.2.2; omega);obtain ⟨r0, r1, rg0, rg1, rl⟩ := box_all q6;have HG2 := lh (aI hg2 (aI hn2 q6))
                   clear hg2 hn2 hv2 q6)
   all_goals
    have HP := lh (got_ret (b := w.heap.size + 1) (n0 := 2) (R := EndsR L (F.rel d.t) x.mem) HA.out.fin (turBT (HO.out.2.2.1.trans ((bDr HQ.out).mono HO.out.2.2.1.size)) HG2.out.1.tur) (by omega) (by omega) HG2.out.1.fin HG2.out.1.at' HG2.out.1.is HG2.out.1.low HG2.out.2.2 HG2.out.2.1);go_wp2_with fail;refine bodyPost_ret (v := .agg #[.int .i64 (y2.f : Int), .slice y2.A n2 y2.c]) (by simp [results, Tryz.results50, go_sem, r0, r1]) rfl HP.out
 by_cases hk3 : d.x.kind = 3
 ·have e3 : d.x.kind = 3 := hk3;rw [e3] at c0;clear hk3 e3;go_enter Tryz.func50, Tryz.ntmps50;go_upto_region 1 with fail;rw [<- hW];clear hW;go_wp2_with fail;go_at_call 80;refine HAL.out.mono ?_;rintro e w1 ⟨r, b, rfl, hal, hb1⟩;have HQ := lh hb1;cases b with
  | true =>
   obtain ⟨j, rfl, hj, hall⟩ := hal rfl;have HJ := lh (aI hj hall);have HF := lh (HFR.out w1 (HAW.out.fin.below hb1) j (HA.out.inN j hj));clear hal hb1 hj hall c0 c12 p0 p1 f3;go_wp2_with fail;go_at_call 81;refine HF.out.mono ?_;rintro e w2 ⟨y2, he, hg2⟩;obtain ⟨n2, hn2⟩ : ∃ n, n = y2.ws.length := ⟨_, rfl⟩;have hv2 : y2.v = .agg #[.int .i64 (y2.f : Int), .slice y2.A n2 y2.c] := (by unfold Ix.v; rw [hn2]);rw [hv2] at he;subst he;have q6 := hg2.tur.obj (bobj HQ.out HO.out.2.1 (by have := HO.out.2.2.2.1; omega)) (by have := HO.out.2.2.2.2; omega);obtain ⟨r0, r1, rg0, rg1, rl⟩ := box_all q6
   have hmem : onlyB j = x.mem := funext fun i => by
    cases hi : x.mem i with
    | true => rw [HJ.out.2 i hi]; exact onlyB_iff.2 rfl
    | false =>
     cases ho : onlyB j i with
     | false => rfl
     | true => rw [onlyB_iff.1 ho, HJ.out.1] at hi; cases hi
   have HP := lh (got_ret (b := w.heap.size + 1) (n0 := 2) (R := EndsR L (F.rel d.t) x.mem) HA.out.fin (turBT (HO.out.2.2.1.trans (HQ.out.mono HO.out.2.2.1.size)) hg2.tur) (by omega) (by omega) hg2.fin hg2.at' (by rw [<- hmem]; exact hg2.is) (low_up hg2.low (mem_low HA.out.low HJ.out.1)) q6 hn2);clear hg2 hn2 hv2 q6 hmem;go_wp2_with fail;refine bodyPost_ret (v := .agg #[.int .i64 (y2.f : Int), .slice y2.A n2 y2.c]) (by simp [results, Tryz.results50, go_sem, r0, r1]) rfl HP.out
  | false =>
   clear hal hb1 c0 f3;obtain ⟨s0, s1, _, _, sl⟩ := box_all (bobj HQ.out HO.out.1 (by have := HO.out.2.2.2.1; omega));have t12 := (HQ.out.cell (World.block_lt_of_cell? _ _ c12)).trans c12;have HCQ := lh (HC.out _ (HAW.out.below (bDr HQ.out)));clear c12 p0 p1 pl;go_upto_region 9 with fail
   go_region_with (refine HCQ.out.mono ?_
                   rintro e w2 ⟨y2, he, hg2⟩;obtain ⟨n2, hn2⟩ : ∃ n, n = y2.ws.length := ⟨_, rfl⟩;have hv2 : y2.v = .agg #[.int .i64 (y2.f : Int), .slice y2.A n2 y2.c] := (by unfold Ix.v; rw [hn2]);rw [hv2] at he;subst he;have q6 := hg2.tur.obj (bobj HQ.out HO.out.2.1 (by have := HO.out.2.2.2.1; omega)) (by have := HO.out.2.2.2.2; omega);obtain ⟨r0, r1, rg0, rg1, rl⟩ := box_all q6;have HG2 := lh (aI hg2 (aI hn2 q6))
                   clear hg2 hn2 hv2 q6)
   all_goals
    have HP := lh (got_ret (b := w.heap.size + 1) (n0 := 2) (R := EndsR L (F.rel d.t) x.mem) HA.out.fin (turBT (HO.out.2.2.1.trans ((bDr HQ.out).mono HO.out.2.2.1.size)) HG2.out.1.tur) (by omega) (by omega) HG2.out.1.fin HG2.out.1.at' HG2.out.1.is HG2.out.1.low HG2.out.2.2 HG2.out.2.1);go_wp2_with fail;refine bodyPost_ret (v := .agg #[.int .i64 (y2.f : Int), .slice y2.A n2 y2.c]) (by simp [results, Tryz.results50, go_sem, r0, r1]) rfl HP.out
 by_cases hk4 : d.x.kind = 4
 ·have e4 : d.x.kind = 4 := hk4;rw [e4] at c0;clear hk4 e4;go_enter Tryz.func50, Tryz.ntmps50;go_upto_region 1 with fail;rw [<- hW];clear hW;go_wp2_with fail;go_at_call 80;refine HAL.out.mono ?_;rintro e w1 ⟨r, b, rfl, hal, hb1⟩;have HQ := lh hb1;cases b with
  | true =>
   obtain ⟨j, rfl, hj, hall⟩ := hal rfl;have HJ := lh (aI hj hall);have HF := lh (HFR.out w1 (HAW.out.fin.below hb1) j (HA.out.inN j hj));clear hal hb1 hj hall c0 c12 p0 p1 f3;go_wp2_with fail;go_at_call 81;refine HF.out.mono ?_;rintro e w2 ⟨y2, he, hg2⟩;obtain ⟨n2, hn2⟩ : ∃ n, n = y2.ws.length := ⟨_, rfl⟩;have hv2 : y2.v = .agg #[.int .i64 (y2.f : Int), .slice y2.A n2 y2.c] := (by unfold Ix.v; rw [hn2]);rw [hv2] at he;subst he;have q6 := hg2.tur.obj (bobj HQ.out HO.out.2.1 (by have := HO.out.2.2.2.1; omega)) (by have := HO.out.2.2.2.2; omega);obtain ⟨r0, r1, rg0, rg1, rl⟩ := box_all q6
   have hmem : onlyB j = x.mem := funext fun i => by
    cases hi : x.mem i with
    | true => rw [HJ.out.2 i hi]; exact onlyB_iff.2 rfl
    | false =>
     cases ho : onlyB j i with
     | false => rfl
     | true => rw [onlyB_iff.1 ho, HJ.out.1] at hi; cases hi
   have HP := lh (got_ret (b := w.heap.size + 1) (n0 := 2) (R := EndsR L (F.rel d.t) x.mem) HA.out.fin (turBT (HO.out.2.2.1.trans (HQ.out.mono HO.out.2.2.1.size)) hg2.tur) (by omega) (by omega) hg2.fin hg2.at' (by rw [<- hmem]; exact hg2.is) (low_up hg2.low (mem_low HA.out.low HJ.out.1)) q6 hn2);clear hg2 hn2 hv2 q6 hmem;go_wp2_with fail;refine bodyPost_ret (v := .agg #[.int .i64 (y2.f : Int), .slice y2.A n2 y2.c]) (by simp [results, Tryz.results50, go_sem, r0, r1]) rfl HP.out
  | false =>
   clear hal hb1 c0 f3;obtain ⟨s0, s1, _, _, sl⟩ := box_all (bobj HQ.out HO.out.1 (by have := HO.out.2.2.2.1; omega));have t12 := (HQ.out.cell (World.block_lt_of_cell? _ _ c12)).trans c12;have HCQ := lh (HC.out _ (HAW.out.below (bDr HQ.out)));clear c12 p0 p1 pl;go_upto_region 9 with fail
   go_region_with (refine HCQ.out.mono ?_
                   rintro e w2 ⟨y2, he, hg2⟩;obtain ⟨n2, hn2⟩ : ∃ n, n = y2.ws.length := ⟨_, rfl⟩;have hv2 : y2.v = .agg #[.int .i64 (y2.f : Int), .slice y2.A n2 y2.c] := (by unfold Ix.v; rw [hn2]);rw [hv2] at he;subst he;have q6 := hg2.tur.obj (bobj HQ.out HO.out.2.1 (by have := HO.out.2.2.2.1; omega)) (by have := HO.out.2.2.2.2; omega);obtain ⟨r0, r1, rg0, rg1, rl⟩ := box_all q6;have HG2 := lh (aI hg2 (aI hn2 q6))
                   clear hg2 hn2 hv2 q6)
   all_goals
    have HP := lh (got_ret (b := w.heap.size + 1) (n0 := 2) (R := EndsR L (F.rel d.t) x.mem) HA.out.fin (turBT (HO.out.2.2.1.trans ((bDr HQ.out).mono HO.out.2.2.1.size)) HG2.out.1.tur) (by omega) (by omega) HG2.out.1.fin HG2.out.1.at' HG2.out.1.is HG2.out.1.low HG2.out.2.2 HG2.out.2.1);go_wp2_with fail;refine bodyPost_ret (v := .agg #[.int .i64 (y2.f : Int), .slice y2.A n2 y2.c]) (by simp [results, Tryz.results50, go_sem, r0, r1]) rfl HP.out
 ·obtain ⟨kk, hkk⟩ : ∃ kk, kk = d.x.kind := ⟨_, rfl⟩;rw [<- hkk] at c0 hk2 hk3 hk4;clear hkk;have HQ := lh (Below.refl W.heap.size W);go_enter Tryz.func50, Tryz.ntmps50;go_upto_region 1 with fail;rw [<- hW];clear hW;obtain ⟨s0, s1, _, _, sl⟩ := box_all (bobj HQ.out HO.out.1 (by have := HO.out.2.2.2.1; omega));have t12 := (HQ.out.cell (World.block_lt_of_cell? _ _ c12)).trans c12;have HCQ := lh (HC.out _ (HAW.out.below (bDr HQ.out)));clear c12 p0 p1 pl;go_upto_region 9 with fail
  go_region_with (refine HCQ.out.mono ?_
                  rintro e w2 ⟨y2, he, hg2⟩;obtain ⟨n2, hn2⟩ : ∃ n, n = y2.ws.length := ⟨_, rfl⟩;have hv2 : y2.v = .agg #[.int .i64 (y2.f : Int), .slice y2.A n2 y2.c] := (by unfold Ix.v; rw [hn2]);rw [hv2] at he;subst he;have q6 := hg2.tur.obj (bobj HQ.out HO.out.2.1 (by have := HO.out.2.2.2.1; omega)) (by have := HO.out.2.2.2.2; omega);obtain ⟨r0, r1, rg0, rg1, rl⟩ := box_all q6;have HG2 := lh (aI hg2 (aI hn2 q6))
                  clear hg2 hn2 hv2 q6)
  all_goals
   have HP := lh (got_ret (b := w.heap.size + 1) (n0 := 2) (R := EndsR L (F.rel d.t) x.mem) HA.out.fin (turBT (HO.out.2.2.1.trans ((bDr HQ.out).mono HO.out.2.2.1.size)) HG2.out.1.tur) (by omega) (by omega) HG2.out.1.fin HG2.out.1.at' HG2.out.1.is HG2.out.1.low HG2.out.2.2 HG2.out.2.1);go_wp2_with fail;refine bodyPost_ret (v := .agg #[.int .i64 (y2.f : Int), .slice y2.A n2 y2.c]) (by simp [results, Tryz.results50, go_sem, r0, r1]) rfl HP.out
open Go.RowKit Go.Deep Go.Sort
structure Stp (S : Nat -> Prop) (fb : Nat) (F : FN) (L : Nat) (w : World) (B p : Nat) (x : Ix) : Prop where
 fin : FindAt (fun k => S k \/ Tch p x k) w fb F L
 own : OwnI w B p x
 hB : B <= w.heap.size
 hp : B <= p
 hS : ∀ k, S k -> k < B
 sm : S F.mb
 sf : S fb
 fits : x.f + x.ws.length <= F.N / 64 + 1
theorem Stp.tch {S : Nat -> Prop} {fb L B p : Nat} {F : FN} {w : World} {x : Ix} (h : Stp S fb F L w B p x) {k : Nat} (hk : Tch p x k) : B <= k := by
 rcases hk with hk | hk
 ·rw [hk]; exact h.hp
 ·exact (World.ownsRow.lt h.own.row k hk).1
theorem Stp.mb {S : Nat -> Prop} {fb L B p : Nat} {F : FN} {w : World} {x : Ix} (h : Stp S fb F L w B p x) {k : Nat} (hk : Tch p x k) : k ≠ F.mb /\ k ≠ fb := by
 have h1 := h.tch hk;have h2 := h.hS _ h.sm;have h3 := h.hS _ h.sf;omega
structure Stepped (S : Nat -> Prop) (fb : Nat) (F : FN) (L B p : Nat) (x : Ix) (i : Nat) (r : Rel) (w w' : World) (x' : Ix) (E : Nat -> Bool) : Prop where
 fs : x'.f = x.f
 stp : Stp S fb F L w' B p x'
 ends : EndsR L r (onlyB i) E
 mem : ∀ j, x'.mem j = (x.mem j || E j)
 tur : Turned (fun k => k = F.mb \/ Tch p x k) w w'
 new : ∀ k, Tch p x' k -> Tch p x k \/ w.heap.size <= k
def SteppedE (S : Nat -> Prop) (fb : Nat) (F : FN) (L B p : Nat) (x : Ix) (i : Nat) (r : Rel) (w : World) (e : Ending) (w' : World) : Prop := e = .returned (.tuple #[]) /\ ∃ x' E, Stepped S fb F L B p x i r w w' x' E
theorem Stp.add {S : Nat -> Prop} {fb L B p n : Nat} {F : FN} {w w' : World} {x : Ix} {ws' : List Nat} {A' : Option Addr} {c' : Nat} (h : Stp S fb F L w B p x) (hO : OwnI w' B p ⟨x.f, ws', A', c'⟩) (hT : Turned (Tch p x) w w') (hk : ∀ k, (Ix.sl ⟨x.f, ws', A', c'⟩).ownBlock = some k -> x.sl.ownBlock = some k \/ w.heap.size <= k)
  (hl : ws'.length = max x.ws.length n) (hn : x.f + n <= F.N / 64 + 1) : Stp S fb F L w' B p ⟨x.f, ws', A', c'⟩ /\ ∀ k, Tch p ⟨x.f, ws', A', c'⟩ k -> Tch p x k \/ w.heap.size <= k := by
 have hnew : ∀ k, Tch p ⟨x.f, ws', A', c'⟩ k -> Tch p x k \/ w.heap.size <= k := fun k hk' => by
  rcases hk' with hk' | hk'
  ·exact .inl (.inl hk')
  ·exact (hk k hk').imp_left .inr
 refine ⟨⟨?_, hO, Nat.le_trans h.hB hT.size, h.hp, h.hS, h.sm, h.sf, ?_⟩, hnew⟩
 ·refine h.fin.go hT (fun k hk1 _ => ⟨.inr hk1, h.mb hk1⟩) (.inl h.sm) (.inl h.sf) (fun k hk1 => ?_) fun k hk1 => ?_
  ·rcases hk1 with hk1 | hk1
   ·exact .inl (.inl hk1)
   ·exact (hnew k hk1).imp_left .inr
  ·rcases hk1 with hk1 | hk1
   ·have := h.hS k hk1; have := h.hB; have := hT.size; omega
   ·rcases hk1 with hk1 | hk1
    ·rw [hk1]; exact World.block_lt_of_cell? w' _ hO.c0
    ·exact (World.ownsRow.lt hO.row k hk1).2
 ·show x.f + ws'.length <= _;have := h.fits;omega
theorem Stp.turned {S : Nat -> Prop} {fb L B p : Nat} {F : FN} {w w' : World} {x : Ix} (h : Stp S fb F L w B p x) (hf : FindAt (fun k => S k \/ Tch p x k) w' fb F L) (ht : Turned (· = F.mb) w w') : Stp S fb F L w' B p x :=
 ⟨hf, h.own.stays ht fun _k hk he => (h.mb hk).1 he, Nat.le_trans h.hB ht.size, h.hp, h.hS, h.sm, h.sf, h.fits⟩
set_option maxRecDepth 100000 in
set_option maxHeartbeats 1000000 in
theorem step_oth {S : Nat -> Prop} {w : World} {fb L B p q : Nat} {F : FN} {x : Ix} (h : Stp S fb F L w B p x) {b1 b2 i : Nat} {d : ND} (hb1 : BoxO (fun k => S k \/ Tch p x k) w b1 #[ptrV fb] 62) (hb2 : BoxO (fun k => S k \/ Tch p x k) w b2 #[.int .i64 (q : Int)] 3) (hd : F.nds[q]? = some d) (hi : i <= F.N) (hf : x.f <= i / 64) (hFR : FromC fb F q) :
  Calls Tryz.prog 118 #[.int .i64 (i : Int), ptrV p, ptrV b1, ptrV b2] w (SteppedE S fb F L B p x i (F.rel d.t) w) := by
 have c1 : w.cell? ⟨b1, 0, none⟩ = some (ptrV fb) := (by rw [obc hb1.1]; rfl);have c2 : w.cell? ⟨b2, 0, none⟩ = some (.int .i64 (q : Int)) := (by rw [obc hb2.1]; rfl);have HF := lh (hFR (fun k => S k \/ Tch p x k) w L i d h.fin hd hi);have HH := lh h;have HX := lh (aI hi hf);clear hb1 hb2 hd hFR h hi hf;go_enter Tryz.func118, Tryz.ntmps118;go_wp2_with fail;go_at_call 81;refine HF.out.mono ?_;rintro e w1 ⟨y, he, hg⟩;obtain ⟨n, hn⟩ : ∃ n, n = y.ws.length := ⟨_, rfl⟩;have hv : y.v = .agg #[.int .i64 (y.f : Int), .slice y.A n y.c] := (by unfold Ix.v; rw [hn]);rw [hv] at he;subst he;have hst := HH.out.turned hg.fin hg.tur;have HA := lh (all_is (w := w1) (B := B) (p := p) (N := F.N) (x := x) (y := y) ⟨hst.own, hst.hB, hg.at'.weaken fun k hk => .inr hk, by have := hg.fin.small; omega, fun hne => Nat.le_trans HX.out.2 (hg.low.resolve_left hne)⟩);rw [hv] at HA;have HG := lh (aI hg hst);clear hg hst hn hv c1 c2;go_wp2_with fail;go_at_call 79;refine HA.out.mono ?_;rintro e w2 ⟨rfl, ws', A', c', hO, hm, hl, hT, hk⟩;have hfy := HG.out.1.at'.fits;have hfx := HG.out.2.fits
 obtain ⟨hs2, hnew⟩ := HG.out.2.add hO hT hk hl (by
  split
  ·omega
  ·rename_i hne;have h1 := Nat.le_trans HX.out.2 (HG.out.1.low.resolve_left hne)
   omega)
 have HP := lh (show SteppedE S fb F L B p x i (F.rel d.t) w (.returned (.tuple #[])) w2 from ⟨rfl, ⟨x.f, ws', A', c'⟩, y.mem, rfl, hs2, HG.out.1.is, hm,
  (turned_mono HG.out.1.tur fun k hk => .inl hk).trans (T := Tch p x) hT fun k _ hk => .inr hk, fun k hk => (hnew k hk).imp_right fun h => Nat.le_trans HG.out.1.tur.size h⟩)
 clear hO hm hl hT hk hfy hfx hs2 hnew;go_wp2_with fail;go_end0
 exact HP.out
open Go.RowKit Go.Deep Go.Sort
theorem and_one (a : Nat) : bits .and .u64 (a : Int) 1 = ((a % 2 : Nat) : Int) := by
 have h1 : (BitVec.ofInt 64 (a : Int)).toNat = a % 18446744073709551616 := by
  rw [BitVec.ofInt_natCast, BitVec.toNat_ofNat]
 show IntKind.u64.wrap ((BitVec.ofInt 64 (a : Int) &&& BitVec.ofInt 64 1).toNat : Int) = _;have h2 : (BitVec.ofInt 64 1).toNat = 1 := rfl;rw [BitVec.toNat_and, h1, h2, Nat.and_one_is_mod, IntKind.wrap_u64];omega
theorem bit_any (x r : Nat) : (bits .and .u64 ((x : Int) / 2 ^ r) 1 == 1) = x.testBit r := by
 have e : ((x : Int) / 2 ^ r) = ((x / 2 ^ r : Nat) : Int) := (by simp);rw [e, and_one, Nat.testBit_eq_decide_div_mod_eq];rcases Nat.mod_two_eq_zero_or_one (x / 2 ^ r) with h2 | h2 <;> rw [h2] <;> rfl
set_option maxRecDepth 100000 in
theorem has_all (A : Nat -> Nat) (c : Nat) (hc : c < 256) (w : World) : Calls Tryz.prog 93 #[setV A, .int .u8 (c : Int)] w fun e w' => e = .returned (.bool (has A c)) /\ Below w.heap.size w w' := by
 unfold setV;have hat := words_at A (c / 64) (by omega);go_enter Tryz.func93, Tryz.ntmps93;go_wp2_with fail;go_ret;refine ⟨?_, (Below.refl _ w).alloc (nlr _) _⟩;rw [bit_any];rfl
theorem str_byte {s : ByteArray} {i : Nat} (h : i < s.size) (W : World) : (Instr.index 9 (.string s) (.int .i64 (i : Int))).run Tryz.prog W = .ok (.int .u8 ((s.data.toList[i]'h).toNat : Int)) W := by
 have h1 : (i : Int) < (s.size : Int) := (by omega);simp [Instr.index, go_sem, h];rfl
set_option maxRecDepth 100000 in
set_option maxHeartbeats 2000000 in
theorem step_one {S : Nat -> Prop} {w : World} {fb L B p : Nat} {F : FN} {x : Ix} (h : Stp S fb F L w B p x) {b1 b2 i : Nat} {T : Nat -> Nat} (hb1 : BoxO (fun k => S k \/ Tch p x k) w b1 #[ptrV fb] 62) (hb2 : BoxO (fun k => S k \/ Tch p x k) w b2 (setA T) 25) (hi : i <= F.N) (hf : x.f <= i / 64) :
  Calls Tryz.prog 92 #[.int .i64 (i : Int), ptrV p, ptrV b1, ptrV b2] w (SteppedE S fb F L B p x i (oneB F.T T) w) := by
 have c1 : w.cell? ⟨b1, 0, none⟩ = some (ptrV fb) := (by rw [obc hb1.1]; rfl);have f2 := h.fin.f2;have f0 := h.fin.f0;have hlim := h.fin.lim;have hsm := h.fin.small;have HH := lh h;have HX := lh (aI hi hf);by_cases hL : i < L
 ·have hiN : i < F.s.size := Nat.lt_of_lt_of_le hL hlim;have z : decide ((i : Int) < (L : Int)) = true := dqt (by omega);have zn : decide (i < L) = true := dqt hL;obtain ⟨c, hc⟩ : ∃ c, c = F.s.data.toList[i]'hiN := ⟨_, rfl⟩;have hTc : F.T[i]? = some c := (by rw [hc]; exact List.getElem?_eq_getElem _);have hidx := fun (W : World) => str_byte hiN W;rw [<- hc] at hidx;have s0 : w.cell? ⟨b2, 0, none⟩ = some (.int .u64 (T 0)) := (by rw [obc hb2.1]; rfl);have s1 : w.cell? ⟨b2, 1, none⟩ = some (.int .u64 (T 1)) := (by rw [obc hb2.1]; rfl);have s2 : w.cell? ⟨b2, 2, none⟩ = some (.int .u64 (T 2)) := (by rw [obc hb2.1]; rfl);have s3 : w.cell? ⟨b2, 3, none⟩ = some (.int .u64 (T 3)) := (by rw [obc hb2.1]; rfl);have R1 := cell_regrown c1;have R2 := cell_regrown f2;have R0 := cell_regrown f0;have S0 := cell_regrown s0;have S1 := cell_regrown s1;have S2 := cell_regrown s2;have S3 := cell_regrown s3;have hc256 : c.toNat < 256 := c.toNat_lt;obtain ⟨cn, hcn⟩ : ∃ cn, cn = c.toNat := ⟨_, rfl⟩;rw [<- hcn] at hidx hc256;obtain ⟨r, hr⟩ : ∃ r, r = has T cn := ⟨_, rfl⟩
  have HAS := lh (show ∀ (dr : Nat) (os : Array Obj), Calls Tryz.prog 93 #[.agg #[.int .u64 (T 0), .int .u64 (T 1), .int .u64 (T 2), .int .u64 (T 3)], .int .u8 (cn : Int)] (grow (redrawn w dr) os) fun e w'' => e = .returned (.bool r) /\ ∃ p : Regrown, w'' = grow (redrawn w p.d) p.os from
   fun dr os => Calls.regrown_of (by rw [hr]; exact has_all T cn hc256 _))
  have hE : EndsR L (oneB F.T T) (onlyB i) (fun j => decide (j = i + 1) && r) := by
   refine ⟨fun j hj => ?_, fun a j ha hij hjl ho => ?_⟩
   ·simp only [Bool.and_eq_true, decide_eq_true_eq] at hj;obtain ⟨rfl, hrt⟩ := hj;refine ⟨i, onlyB_iff.2 rfl, by omega, ?_⟩;simp only [oneB, hTc, <- hcn, <- hr, hrt];simp
   ·rw [onlyB_iff] at ha;subst ha;simp only [oneB, hTc, <- hcn, <- hr, Bool.and_eq_true, beq_iff_eq] at ho;simp [ho.1, ho.2]
  have HE := lh hE;have hw1 : wrap64 ((i : Int) + 1) = ((i + 1 : Nat) : Int) := IntWalk.wrap64_in _ (by omega);have HI1 := lh (show i + 1 <= F.N from hiN);obtain ⟨q, hq⟩ : ∃ q, q = i + 1 := ⟨_, rfl⟩;rw [<- hq] at hw1 HI1 HE;have HADD := lh fun (W : World) (hs : Stp S fb F L W B p x) => add_is (w := W) (B := B) (p := p) (x := x) hs.own hs.hB q (by omega) (by omega);have HQ := lh (aI hq (show x.f <= q / 64 by omega));clear hb1 hb2 h hi hf hlim hsm hL hiN hc hTc hcn hr hE hc256 hq c1 f2 f0 s0 s1 s2 s3;go_enter Tryz.func92, Tryz.ntmps92;cases r
  ·go_upto_region 0 with fail;refine wp_region_quiet_below (by kernel_rfl) (by kernel_rfl) ?_
   repeat (go_big_quiet_step (with_reducible exact HAS.out _ _))
   refine wpQuiet_nil ?_;rintro w5 ⟨⟨dq, osq⟩, rfl⟩;have hb5 := below_regrown w dq osq;generalize grow (redrawn w dq) osq = w5 at hb5 ⊢;have HP := lh (show SteppedE S fb F L B p x i (oneB F.T T) w (.returned (.tuple #[])) w5 from ⟨rfl, x, noneB, rfl, HH.out.turned (HH.out.fin.below hb5) (Turned.of_below hb5), HE.out.congr (fun _ => rfl) (fun j => Bool.and_false _), fun j => (Bool.or_false _).symm, Turned.of_below hb5, fun k hk => .inl hk⟩);clear R0 R1 R2 S0 S1 S2 S3 hb5;go_wp2_with fail;go_end0
   exact HP.out
  ·go_upto_region 0 with fail;refine wp_region_quiet_below (by kernel_rfl) (by kernel_rfl) ?_
   repeat (go_big_quiet_step (with_reducible exact HAS.out _ _))
   refine wpQuiet_nil ?_;rintro w5 ⟨⟨dq, osq⟩, rfl⟩;have hb5 := below_regrown w dq osq;generalize grow (redrawn w dq) osq = w5 at hb5 ⊢;have HA := lh (HADD.out w5 (HH.out.turned (HH.out.fin.below hb5) (Turned.of_below hb5)));have HB := lh hb5;clear R0 R1 R2 S0 S1 S2 S3 hb5;go_wp2_with fail;go_at_call 53;refine HA.out.mono ?_;rintro e w2 ⟨rfl, ws', A', c', hO, hm, hl, hT, hk⟩;have hst := HH.out.turned (HH.out.fin.below HB.out) (Turned.of_below HB.out);obtain ⟨hs2, hnew⟩ := hst.add hO hT hk hl (by have := HI1.out; have := HQ.out.2; omega)
   have HP := lh (show SteppedE S fb F L B p x i (oneB F.T T) w (.returned (.tuple #[])) w2 from ⟨rfl, ⟨x.f, ws', A', c'⟩, fun j => decide (j = q), rfl, hs2, HE.out.congr (fun _ => rfl) (fun j => Bool.and_true _), hm,
    (Turned.of_below (S := fun k => k = F.mb \/ Tch p x k) HB.out).trans (T := Tch p x) hT fun k _ hk => .inr hk, fun k hk => (hnew k hk).imp_right fun h => Nat.le_trans HB.out.size h⟩)
   clear hO hm hl hT hk hst hs2 hnew;go_wp2_with fail;go_end0
   exact HP.out
 ·have z : decide ((i : Int) < (L : Int)) = false := dqf (by omega);have zn : decide (i < L) = false := dqf hL;have HE := lh (show EndsR L (oneB F.T T) (onlyB i) noneB from ⟨fun j hj => (by cases hj), fun a j ha hij hjl _ => by rw [onlyB_iff] at ha; omega⟩);have R1 := cell_regrown c1;have R2 := cell_regrown f2;clear hb1 hb2 h hi hf hlim hsm hL c1 f2 f0;go_enter Tryz.func92, Tryz.ntmps92;go_upto_region 0 with fail;refine wp_region_quiet_below (by kernel_rfl) (by kernel_rfl) ?_
  repeat (go_big_quiet_step (with_reducible exact rfl))
  refine wpQuiet_nil ?_;rintro w5 ⟨⟨dq, osq⟩, rfl⟩;have hb5 := below_regrown w dq osq;generalize grow (redrawn w dq) osq = w5 at hb5 ⊢;have HP := lh (show SteppedE S fb F L B p x i (oneB F.T T) w (.returned (.tuple #[])) w5 from ⟨rfl, x, noneB, rfl, HH.out.turned (HH.out.fin.below hb5) (Turned.of_below hb5), HE.out, fun j => (Bool.or_false _).symm, Turned.of_below hb5, fun k hk => .inl hk⟩);clear R1 R2 hb5;go_wp2_with fail;go_end0
  exact HP.out
open Go.RowKit Go.Deep Go.Sort
theorem runF_step1 : RunF 118 := fun args W => by simp [go_sem]
theorem runF_one1 : RunF 92 := fun args W => by simp [go_sem]
def FromB (fb : Nat) (F : FN) (q : Nat) : Prop := ∀ (k : Nat) (d : ND), k <= q -> F.nds[k]? = some d -> d.x.kind ≠ 1 -> FromC fb F k
theorem step_any {S : Nat -> Prop} {w : World} {fb L B p q : Nat} {F : FN} {x : Ix} (h : Stp S fb F L w B p x) {v : Value} (hv : StepV (fun k => S k \/ Tch p x k) w fb F.nds q v) : FromB fb F q -> ∀ d, F.nds[q]? = some d -> ∃ fid bs, v = funV fid bs /\ RunF fid ∧
  ∀ i, i <= F.N -> x.f <= i / 64 -> Calls Tryz.prog fid (#[.int .i64 (i : Int), ptrV p] ++ bs) w (SteppedE S fb F L B p x i (F.rel d.t) w) := by
 induction hv with
 | one hd hk hv =>
  rename_i k d0 v0;intro _ d hd';rw [hd] at hd';cases hd'
  obtain ⟨b1, b2, rfl, hb1, hb2⟩ := hv;refine ⟨_, _, rfl, runF_one1, fun i hi hf => ?_⟩
  have hr : F.rel d0.t = oneB F.T d0.x.set := by
   rw [h.fin.rel hd, hk];rfl
  rw [hr];exact step_one h hb1 hb2 hi hf
 | grp hd hk hq _ ih =>
  rename_i k q d0 v0 _;intro hFR d hd';rw [hd] at hd';cases hd'
  obtain ⟨q', d', h1, h2, h3, h4, _⟩ := h.fin.kid0 hd (.inr hk);rw [hq] at h1;cases h1
  have hr : F.rel d0.t = F.rel d'.t := by
   rw [h.fin.rel hd, hk, <- h4];rfl
  rw [hr];exact ih (fun j dj hj => hFR j dj (by omega)) d' h3
 | oth hd h1 h5 hb1 hb2 =>
  rename_i k b1 b2 d0;intro hFR d hd';rw [hd] at hd';cases hd'
  exact ⟨_, _, rfl, runF_step1, fun i hi hf => step_oth h hb1 hb2 hd hi hf (hFR k _ (nlr _) hd h1)⟩
structure Aft (S : Nat -> Prop) (fb : Nat) (F : FN) (L l : Nat) (R : (Nat -> Bool) -> Prop) (w w' : World) (y : Ix) : Prop where
 own : w'.ownsRow w.heap.size 23 1 (.slice y.A y.ws.length y.c) y.ws.length (wsV y.ws)
 ok : OkW y.ws
 fits : y.f + y.ws.length <= F.N / 64 + 1
 is : R y.mem
 low : y.low l
 fin : FindAt (fun k => S k \/ y.sl.ownBlock = some k) w' fb F L
 tur : Turned (· = F.mb) w w'
def AftE (S : Nat -> Prop) (fb : Nat) (F : FN) (L l : Nat) (R : (Nat -> Bool) -> Prop) (w : World) (e : Ending) (w' : World) : Prop := ∃ y : Ix, e = .returned y.v /\ Aft S fb F L l R w w' y
theorem own_ix {S : Nat -> Prop} {w : World} {B N : Nat} {y : Ix} (h : w.ownsRow B 23 1 (.slice y.A y.ws.length y.c) y.ws.length (wsV y.ws)) (hS : ∀ k, S k -> k < B) (hok : OkW y.ws) (hf : y.f + y.ws.length <= N / 64 + 1) : IxAt S N w y := by
 obtain ⟨A, c, e, hc, ho, _⟩ := own_off h hS;injection e with e1 _ e2;refine ⟨?_, by rw [e2]; exact hc, hok, hf⟩;rcases ho with ho | ⟨g, o, e3, h1, h2⟩
 ·exact .inl ho
 ·exact .inr ⟨g, o, e1.trans e3, h1, h2⟩
theorem Aft.got {S : Nat -> Prop} {fb L l : Nat} {F : FN} {R : (Nat -> Bool) -> Prop} {w w' : World} {y : Ix} (h : Aft S fb F L l R w w' y) (hS : FindAt S w fb F L) : Got S fb F L l R w w' y :=
 ⟨own_ix h.own hS.old h.ok h.fits, h.is, h.low, h.fin.weaken hS.sm hS.sf fun _k hk => .inl hk, h.tur⟩
structure AftM (S : Nat -> Prop) (fb : Nat) (F : FN) (L l q f0 B p : Nat) (x : Ix) (r : Rel) (v : Value) (w : World) (c : Nat) (wr : World) (y : Ix) : Prop where
 stp : Stp (Pr S w 2) fb F L wr B p y
 fy : y.f = f0
 snd : ∀ j, y.mem j = true -> ∃ a, x.mem a = true /\ a < j /\ r a j = true
 cpl : ∀ a j, x.mem a = true -> a < c -> a < j -> j <= L -> r a j = true -> y.mem j = true
 o3 : wr.heap[w.heap.size]? = some (.cells #[.int .i64 (x.f : Int), .slice x.A x.ws.length x.c] 68 (0, 0))
 o4 : wr.heap[w.heap.size + 1]? = some (.cells #[.int .i64 0, .slice none 0 0] 68 (0, 0))
 tur : Turned (· = F.mb) w wr
 ix : IxAt (fun k => Pr S w 2 k \/ B <= k) F.N wr x
 low : y.low l
 stv : StepV (fun k => Pr S w 2 k \/ Tch p y k) wr fb F.nds q v
theorem AftM.go {S : Nat -> Prop} {fb L l q f0 B p c i : Nat} {F : FN} {x y y' : Ix} {r : Rel} {v : Value} {w wr w' : World} {E : Nat -> Bool} (h : AftM S fb F L l q f0 B p x r v w c wr y) (hB : w.heap.size + 2 <= B) (hmb : F.mb < w.heap.size) (hs : Stepped (Pr S w 2) fb F L B p y i r wr w' y' E) (hi : x.mem i = true) (hn : ∀ k, c <= k -> k < i -> x.mem k = false) (hl : ∀ i, x.mem i = true -> l / 64 <= f0) : AftM S fb F L l q f0 B p x r v w (i + 1) w' y' := by
 have htch : ∀ k, Tch p y k -> B <= k := fun k hk => h.stp.tch hk;have hlt3 := lts h.o3;refine ⟨hs.stp, hs.fs.trans h.fy, fun j hj => ?_, fun a j ha hac haj hjl hr => ?_, ?_, ?_, ?_, ?_, ?_, ?_⟩
 ·rw [hs.mem, Bool.or_eq_true] at hj;rcases hj with hj | hj
  ·exact h.snd j hj
  ·obtain ⟨a, h1, h2, h3⟩ := hs.ends.snd j hj;rw [onlyB_iff] at h1;subst h1;exact ⟨a, hi, h2, h3⟩
 ·rw [hs.mem, Bool.or_eq_true];by_cases hai : a = i
  ·subst hai;exact .inr (hs.ends.cpl a j (onlyB_iff.2 rfl) haj hjl hr)
  ·by_cases hac2 : a < c
   ·exact .inl (h.cpl a j ha hac2 haj hjl hr)
   ·rw [hn a (by omega) (by omega)] at ha;cases ha
 ·exact hs.tur.obj h.o3 fun hk => hk.elim (fun hk => by omega) fun hk => by have := htch _ hk; omega
 ·exact hs.tur.obj h.o4 fun hk => hk.elim (fun hk => by omega) fun hk => by have := htch _ hk; omega
 ·exact h.tur.trans hs.tur fun k hk hk2 => hk2.elim id fun hk2 => by have := htch _ hk2; omega
 ·exact h.ix.turned (turned_mono hs.tur fun k hk => hk.elim (fun hk => .inl (by rw [hk]; exact h.stp.sm)) fun hk => .inr (htch k hk))
 ·right;rw [hs.fs, h.fy];exact hl i hi
 ·have h1 : StepV (fun k => (Pr S w 2 k \/ Tch p y k) \/ Tch p y' k) wr fb F.nds q v := h.stv.fresh fun k hk => hk.elim .inl fun hk => (hs.new k hk).imp_left .inr;have h2 := h1.turned hs.tur fun k hk => .inl (hk.elim (fun hk => .inl (by rw [hk]; exact h.stp.sm)) .inr);exact h2.fresh fun k hk => .inl (hk.elim (fun hk => .inl (.inl hk)) .inr)
theorem stepv_form {S : Nat -> Prop} {w : World} {fb q : Nat} {nds : List ND} {v : Value} (h : StepV S w fb nds q v) : ∃ fid bs, v = funV fid bs /\ RunF fid := by
 induction h with
 | one hd hk hv =>
  obtain ⟨b1, b2, rfl, _, _⟩ := hv;exact ⟨_, _, rfl, runF_one1⟩
 | grp _ _ _ _ ih => exact ih
 | oth _ _ _ _ _ => exact ⟨_, _, rfl, runF_step1⟩
theorem step_call {S : Nat -> Prop} {w : World} {fb L B p q : Nat} {F : FN} {x : Ix} (h : Stp S fb F L w B p x) {fid : FuncId} {bs : Array Value} (hv : StepV (fun k => S k \/ Tch p x k) w fb F.nds q (funV fid bs)) (hFR : FromB fb F q) {d : ND} (hd : F.nds[q]? = some d) {i : Nat} (hi : i <= F.N) (hf : x.f <= i / 64) : Calls Tryz.prog fid (#[.int .i64 (i : Int), ptrV p] ++ bs) w (SteppedE S fb F L B p x i (F.rel d.t) w) := by
 obtain ⟨fid', bs', hfn, _, hc⟩ := step_any h hv hFR d hd;injection hfn with h1 _ h2;injection h1 with h1;subst h1 h2;exact hc i hi hf
theorem after_meas {N i : Nat} {r : Int} (hi : i <= N) (h : r = -1 \/ ∃ j : Nat, r = (j : Int) /\ i < j /\ j <= N) : (if r < 0 then 0 else N + 1 - r.toNat) < (if (i : Int) < 0 then 0 else N + 1 - (i : Int).toNat) := by
 rcases h with h | ⟨j, h, h1, h2⟩
 ·subst h;rw [if_pos (by decide), if_neg (by omega)];omega
 ·subst h;rw [if_neg (by omega), if_neg (by omega)];omega
set_option maxRecDepth 100000 in
set_option maxHeartbeats 600000 in
theorem after_is {S : Nat -> Prop} {w : World} {fb L l q : Nat} {F : FN} {x : Ix} (ha : Ask S fb F L l w x) {v : Value} (hv : StepV S w fb F.nds q v) {d : ND} (hd : F.nds[q]? = some d) (hFR : FromB fb F q) : Calls Tryz.prog 71 #[v, x.v] w (AftE S fb F L l (EndsR L (F.rel d.t) x.mem) w) := by
 obtain ⟨fid, bs, hfv, hrf⟩ := stepv_form hv;subst hfv;obtain ⟨m, hm⟩ : ∃ m, m = x.ws.length := ⟨_, rfl⟩;have hxv : x.v = .agg #[.int .i64 (x.f : Int), .slice x.A m x.c] := (by unfold Ix.v; rw [hm]);rw [hxv];obtain ⟨W, hW, hbW, hsW, o3, o4⟩ := two_boxes w (.int .i64 (x.f : Int)) (.slice x.A m x.c) 68 (.int .i64 0) (.slice none 0 0) 68;have hmb : F.mb < w.heap.size := ha.fin.kept.lt;have hsm := ha.fin.small;have HA := lh ha;have HAW := lh (ha.pr 2 hbW (by omega));have HV := lh hv;have HNX := lh fun (i : Nat) (hi : i < 1099511627776) (V : World) (T : Nat -> Prop) (hx : IxAt T F.N V x) (hD : DebAt V) => next_ix hx (by omega) i hi hD;rw [hxv] at HNX;have HSC := lh fun (wr : World) (y : Ix) (B p i : Nat) (h : Stp (Pr S w 2) fb F L wr B p y) (hv : StepV (fun k => Pr S w 2 k \/ Tch p y k) wr fb F.nds q (funV fid bs)) (hi : i <= F.N) (hf : y.f <= i / 64) => step_call h hv hFR hd hi hf;have HO := lh (aI o3 (aI o4 (aI hbW (aI hsW hmb))));have HM := lh (aI hm hxv);have HSM := lh hsm;unfold RunF at hrf;clear hm hxv hd hFR ha hv hmb hbW hsW hsm;go_enter Tryz.func71, Tryz.ntmps71;go_upto_region 1 with fail;rw [<- hW];clear hW;obtain ⟨p0, p1, _, _, pl⟩ := box_all o3;clear o3 o4;go_wp2_with fail;go_at_call 94;refine (HNX.out 0 (by decide) _ _ HAW.out.at' HAW.out.fin.deb).mono ?_;rintro e w1 ⟨r0, rfl, hr0, hb1⟩;have HB1 := lh hb1;have HR0 := lh hr0;clear hb1 hr0 p0 p1 pl
 obtain ⟨i0, hi0, hmx, hi0N, hF0⟩ : ∃ i0 : Nat, i0 <= F.N /\ max r0 0 = (i0 : Int) /\ (∀ i, x.mem i = true -> i0 <= i) /\ (∀ i, x.mem i = true -> l / 64 <= i0 / 64) := by
  rcases HR0.out with ⟨rfl, hn⟩ | ⟨j, rfl, _, hj, hl⟩
  ·exact ⟨0, Nat.zero_le _, rfl, fun i hi => Nat.zero_le _, fun i hi => by rw [hn i (Nat.zero_le _)] at hi; cases hi⟩
  ·refine ⟨j, HA.out.inN j hj, by omega, fun i hi => Decidable.byContradiction fun h => ?_, fun i hi => mem_low HA.out.low hj⟩;rw [hl i (Nat.zero_le _) (by omega)] at hi;cases hi
 have HI0 := lh (aI hi0 (aI hi0N hF0));have HSI := lh fun (V : World) => since_is i0 (by have := HSM.out; omega) V;unfold Ix.v at HSI;simp only [List.length_nil] at HSI;obtain ⟨f0, hf0⟩ : ∃ f, f = i0 / 64 := ⟨_, rfl⟩;rw [<- hf0] at HSI;have HF0 := lh hf0;clear hi0 hi0N hF0 hf0;go_wp2_with fail;go_at_call 52;refine (HSI.out _).mono ?_;rintro e w2 ⟨rfl, hb2⟩;have HB2 := lh (HB1.out.trans (hb2.mono HB1.out.size));obtain ⟨W3, hW3⟩ : ∃ W3, W3 = w2.alloc (.cells #[.int .i64 (f0 : Int), .slice none 0 0] 68) := ⟨_, rfl⟩;obtain ⟨B, hB⟩ : ∃ B, B = w2.heap.size := ⟨_, rfl⟩
 have HS := lh (show AftM S fb F L l q f0 B B x (F.rel d.t) (funV fid bs) w 0 W3 ⟨f0, [], none, 0⟩ /\ w.heap.size + 2 <= B by
  have h2 := HB2.out.size;have hs := HO.out.2.2.2.1;have hbW3 : Below W.heap.size W W3 := (by rw [hW3]; exact HB2.out.alloc HB2.out.size _);have hbw : Below w.heap.size w W3 := HO.out.2.2.1.trans (hbW3.mono HO.out.2.2.1.size);have htn : ∀ k, Tch B ⟨f0, [], none, 0⟩ k -> k = B := fun k hk => tch_nil B f0 hk;have hsz : W3.heap.size = B + 1 := (by rw [hW3, hB]; simp);refine ⟨⟨⟨?_, ?_, ?_, ?_, ?_, ?_, ?_, ?_⟩, rfl, fun j hj => ?_, fun a j _ h0 => by omega, ?_, ?_, Turned.of_below hbw, ?_, .inl rfl, ?_⟩, by omega⟩
  ·refine HA.out.fin.priv hbw (fun k hk => .inl (.inl hk)) (fun k hk => ?_) (fun k hk => ?_)
   ·rcases hk with hk | hk
    ·exact hk.imp_right fun h => h.1
    ·have := htn k hk; right; omega
   ·rcases hk with hk | hk
    ·exact Pr.old HA.out.fin.old (by omega) hk
    ·have := htn k hk; omega
  ·rw [hW3, hB]; exact OwnI.nil w2 w2.heap.size f0
  ·omega
  ·exact nlr _
  ·exact fun k hk => Pr.old HA.out.fin.old (by omega) hk
  ·exact .inl HA.out.fin.sm
  ·exact .inl HA.out.fin.sf
  ·show f0 + 0 <= _;have := HI0.out.1; have := HF0.out; omega
  ·rw [mem_nil _ rfl] at hj; cases hj
  ·rw [<- HM.out.1]; exact bobj hbW3 HO.out.1 (by omega)
  ·exact bobj hbW3 HO.out.2.1 (by omega)
  ·exact ((HA.out.at'.fresh (T := fun k => Pr S w 2 k \/ B <= k) fun k hk => hk.elim (fun hk => hk.imp_right fun h => h.1) fun hk => .inr (by omega))).stays hbw
  ·have h1 : StepV (fun k => Pr S w 2 k \/ Tch B ⟨f0, [], none, 0⟩ k) w fb F.nds q (funV fid bs) := HV.out.fresh fun k hk => hk.elim (fun hk => hk.imp_right fun h => h.1) fun hk => by have := htn k hk; right; omega
   exact h1.turned (T := fun _ => False) (Turned.of_below hbw) fun k hk => hk.elim)
 have HMS := lh (show r0 < 0 \/ r0 <= (F.N : Int) by
  rcases HR0.out with ⟨rfl, _⟩ | ⟨j, rfl, _, hj, _⟩
  ·left; decide
  ·right; have := HA.out.inN j hj; omega)
 clear hb2 hmx;go_upto_region 3 with fail;rw [<- hW3, <- hB];clear hW3 hB;go_loopw [5] (fun iv wr => ∃ (c : Nat) (r : Int) (y : Ix), iv = .int .i64 r /\ Hid (NextIs x c r) /\ Hid (AftM S fb F L l q f0 B B x (F.rel d.t) (funV fid bs) w c wr y)) (fun iv _ => if intOf iv < 0 then 0 else F.N + 1 - (intOf iv).toNat)
 case atStart => exact ⟨0, r0, ⟨f0, [], none, 0⟩, rfl, HR0, lh HS.out.1⟩
 case round =>
  obtain ⟨c, r, y, rfl, HR, HY⟩ := hrel;rcases HR.out with ⟨rfl, hn⟩ | ⟨i, rfl, hci, hi, hl⟩
  ·have hY := HY.out;have hc0 := hY.stp.own.c0;have hc1 := hY.stp.own.c1;obtain ⟨n, hny⟩ : ∃ n, n = y.ws.length := ⟨_, rfl⟩;have hyv : y.v = .agg #[.int .i64 (y.f : Int), .slice y.A n y.c] := (by unfold Ix.v; rw [hny]);rw [<- hny] at hc1;have hBl : B < wr.heap.size := World.block_lt_of_cell? wr _ hc0;obtain ⟨r0', r1', rg0, rg1, rl⟩ := box_all hY.o4;obtain ⟨wz, hwz⟩ : ∃ W, W = (wr.setCell ⟨w.heap.size + 1, 0, none⟩ (.int .i64 (y.f : Int))).setCell ⟨w.heap.size + 1, 1, none⟩ (.slice y.A n y.c) := ⟨_, rfl⟩
   have HP := lh (show AftE S fb F L l (EndsR L (F.rel d.t) x.mem) w (.returned (.agg #[.int .i64 (y.f : Int), .slice y.A n y.c])) wz by
    obtain ⟨hp1, hp2⟩ := put_two (u' := .int .i64 (y.f : Int)) (v' := .slice y.A n y.c) hY.o4;rw [<- hwz] at hp1 hp2;have hB := HS.out.2;have hmb := HO.out.2.2.2.2;have hfb := lts HA.out.fin.obj;refine ⟨y, by rw [hyv], ?_, hY.stp.own.ok, hY.stp.fits, ⟨fun j hj => hY.snd j hj, fun a j h1 h2 h3 h4 => hY.cpl a j h1 ?_ h2 h3 h4⟩, hY.low, ?_, turS hY.tur hp2 (by omega)⟩
    ·refine own_base (b1 := B) (ownsRow_turned hY.stp.own.row hp2 fun k hk => ?_) (by omega);have := (World.ownsRow.lt hY.stp.own.row k hk).1;omega
    ·exact Decidable.byContradiction fun h => by rw [hn a (by omega)] at h1; cases h1
    ·refine hY.stp.fin.go hp2 (fun k hk _ => ⟨.inl (.inr (by omega)), by omega, by omega⟩) (.inl HA.out.fin.sm) (.inl HA.out.fin.sf) (fun k hk => ?_) (fun k hk => ?_)
     ·exact .inl (hk.elim (fun hk => .inl (.inl hk)) fun hk => .inr (.inr hk))
     ·rcases hk with hk | hk
      ·have := HA.out.fin.old k hk; have := hY.tur.size; have := hp2.size; omega
      ·have := (World.ownsRow.lt hY.stp.own.row k hk).2; have := hp2.size; omega)
   rw [hwz] at HP;clear hn hY hny hyv hwz;go_wp2_with fail;refine bodyPost_ret (v := .agg #[.int .i64 (y.f : Int), .slice y.A n y.c]) (by simp [results, Tryz.results71, go_sem, r0', r1']) rfl HP.out
  ·have hiN : i <= F.N := HA.out.inN i hi;have hi5 : i <= 100000 := Nat.le_trans hiN HSM.out;have hi0 : decide ((0 : Int) <= (i : Int)) = true := dqt (by omega);have hw1 : wrap64 ((i : Int) + 1) = ((i + 1 : Nat) : Int) := IntWalk.wrap64_in _ (by omega);obtain ⟨i1, hi1⟩ : ∃ i1, i1 = i + 1 := ⟨_, rfl⟩;rw [<- hi1] at hw1;have HST := lh (HSC.out wr y B B i HY.out.stp HY.out.stv hiN (by rw [HY.out.fy, HF0.out]; exact Nat.div_le_div_right (HI0.out.2.1 i hi)));have HI := lh (aI hci (aI hi (aI hl (aI hiN hi1))));have hi15 : i1 < 1099511627776 := (by omega);clear hci hi hl hiN hi1 hi5;go_wp2_with fail;refine HST.out.mono ?_;rintro e w4 ⟨rfl, y', E, hs⟩;have hgo := HY.out.go HS.out.2 HO.out.2.2.2.2 hs HI.out.2.1 HI.out.2.2.1 (fun i hi => by rw [HF0.out]; exact HI0.out.2.2 i hi);have HG := lh hgo;have h3 := hgo.o3;rw [<- HM.out.1] at h3;obtain ⟨p0, p1, _, _, pl⟩ := box_all h3;clear hs hgo h3;go_wp2_with fail;go_at_call 94;refine (HNX.out i1 hi15 _ _ HG.out.ix HG.out.stp.fin.deb).mono ?_;rintro e w5 ⟨r', rfl, hr', hb5⟩;have HR' := lh hr'
   have HG5 := lh (show AftM S fb F L l q f0 B B x (F.rel d.t) (funV fid bs) w i1 w5 y' by
    have h := HG.out;have hs := lts h.o4;have hs3 := lts h.o3;rw [HI.out.2.2.2.2]
    exact ⟨h.stp.turned (h.stp.fin.below hb5) (Turned.of_below hb5), h.fy, h.snd, h.cpl, bobj hb5 h.o3 hs3, bobj hb5 h.o4 hs, turB h.tur hb5, h.ix.stays hb5, h.low, h.stv.turned (T := fun _ => False) (Turned.of_below hb5) fun k hk => hk.elim⟩)
   clear hr' hb5 p0 p1 pl;go_wp2_with fail;go_roundw
   case rel => exact ⟨i1, r', y', rfl, HR', HG5⟩
   case measure =>
    have hi := HI.out;simp only [intOf];refine after_meas hi.2.2.2.1 ?_;rcases HR'.out with ⟨h, _⟩ | ⟨j, h, hj, hjx, _⟩
    ·exact .inl h
    ·exact .inr ⟨j, h, by omega, HA.out.inN j hjx⟩
open Go.RowKit Go.Deep Go.Sort
theorem mem_f {x : Ix} {j : Nat} (hj : x.mem j = true) : x.f <= j / 64 := by
 rcases Nat.lt_or_ge (j / 64) x.f with h1 | h1
 ·unfold Ix.mem memN wordN at hj;rw [if_pos h1, Nat.zero_testBit] at hj;cases hj
 ·exact h1
structure SprM (S : Nat -> Prop) (fb : Nat) (F : FN) (L q B p : Nat) (x : Ix) (K : Rel) (v : Value) (w : World) (c : Nat) (wr : World) (y : Ix) : Prop where
 stp : Stp S fb F L wr B p y
 fy : y.f = x.f
 snd : ∀ j, y.mem j = true -> ∃ k s, x.mem k = true /\ chainB K s k j = true
 cpl : ∀ a j, y.mem a = true -> a < c -> a < j -> j <= L -> K a j = true -> y.mem j = true
 mono : ∀ j, x.mem j = true -> y.mem j = true
 tur : Turned (fun k => k = F.mb \/ Tch p x k) w wr
 new : ∀ k, Tch p y k -> Tch p x k \/ w.heap.size <= k
 stv : StepV (fun k => S k \/ Tch p y k) wr fb F.nds q v
 nil : x.ws = [] -> y.ws = []
theorem SprM.start {S : Nat -> Prop} {fb L q B p : Nat} {F : FN} {x : Ix} {K : Rel} {v : Value} {w : World} (h : Stp S fb F L w B p x) (hv : StepV (fun k => S k \/ Tch p x k) w fb F.nds q v) : SprM S fb F L q B p x K v w 0 w x :=
 ⟨h, rfl, fun j hj => ⟨j, 0, hj, chain_zero.2 rfl⟩, fun a j _ h0 => by omega, fun _ h => h, Turned.refl _ _, fun _ h => .inl h, hv, id⟩
theorem SprM.go {S : Nat -> Prop} {fb L q B p c i : Nat} {F : FN} {x y y' : Ix} {K : Rel} {v : Value} {w wr w' : World} {E : Nat -> Bool} (h : SprM S fb F L q B p x K v w c wr y) (hs : Stepped S fb F L B p y i K wr w' y' E) (hi : y.mem i = true) (hn : ∀ k, c <= k -> k < i -> y.mem k = false) : SprM S fb F L q B p x K v w (i + 1) w' y' := by
 refine ⟨hs.stp, hs.fs.trans h.fy, fun j hj => ?_, fun a j ha hac haj hjl hr => ?_, fun j hj => ?_, ?_, fun k hk => ?_, ?_, fun e => by rw [mem_nil y (h.nil e) i] at hi; cases hi⟩
 ·rw [hs.mem, Bool.or_eq_true] at hj;rcases hj with hj | hj
  ·exact h.snd j hj
  ·obtain ⟨a, h1, h2, h3⟩ := hs.ends.snd j hj;rw [onlyB_iff] at h1;subst h1;obtain ⟨k, s, h4, h5⟩ := h.snd a hi;exact ⟨k, s + 1, h4, chain_add h5 (chain_one.2 ⟨h2, h3⟩)⟩
 ·rw [hs.mem, Bool.or_eq_true]
  have hya : y.mem a = true := by
   rw [hs.mem, Bool.or_eq_true] at ha;rcases ha with ha | ha
   ·exact ha
   ·obtain ⟨b, h1, h2, _⟩ := hs.ends.snd a ha;rw [onlyB_iff] at h1;omega
  by_cases hai : a = i
  ·subst hai;exact .inr (hs.ends.cpl a j (onlyB_iff.2 rfl) haj hjl hr)
  ·by_cases hac2 : a < c
   ·exact .inl (h.cpl a j hya hac2 haj hjl hr)
   ·rw [hn a (by omega) (by omega)] at hya;cases hya
 ·rw [hs.mem, h.mono j hj]; rfl
 ·exact h.tur.trans hs.tur fun k hk hk2 => hk2.elim .inl fun hk2 => (h.new k hk2).elim .inr fun h => by omega
 ·exact (hs.new k hk).elim (h.new k) fun h1 => .inr (Nat.le_trans h.tur.size h1)
 ·have h1 : StepV (fun k => (S k \/ Tch p y k) \/ Tch p y' k) wr fb F.nds q v := h.stv.fresh fun k hk => hk.elim .inl fun hk => (hs.new k hk).imp_left .inr;have h2 := h1.turned hs.tur fun k hk => .inl (hk.elim (fun hk => .inl (by rw [hk]; exact h.stp.sm)) .inr);exact h2.fresh fun k hk => .inl (hk.elim (fun hk => .inl (.inl hk)) .inr)
theorem SprM.below {S : Nat -> Prop} {fb L q B p c : Nat} {F : FN} {x y : Ix} {K : Rel} {v : Value} {w wr w' : World} (h : SprM S fb F L q B p x K v w c wr y) (hb : Below wr.heap.size wr w') : SprM S fb F L q B p x K v w c w' y :=
 ⟨h.stp.turned (h.stp.fin.below hb) (Turned.of_below hb), h.fy, h.snd, h.cpl, h.mono, h.tur.trans (T := fun _ => False) (Turned.of_below hb) fun _ _ hf => hf.elim, h.new, h.stv.turned (T := fun _ => False) (Turned.of_below hb) fun _k hk => hk.elim, h.nil⟩
theorem SprM.inN {S : Nat -> Prop} {fb L q B p c : Nat} {F : FN} {x y : Ix} {K : Rel} {v : Value} {w wr : World} (h : SprM S fb F L q B p x K v w c wr y) (hK : FitR F.N K) (hx : InN F.N x.mem) : InN F.N y.mem := fun j hj => by
 obtain ⟨k, s, h1, h2⟩ := h.snd j hj;exact (FitR.chain hK k j h2).2 (hx k h1)
theorem SprM.stop {S : Nat -> Prop} {fb L q B p c : Nat} {F : FN} {x y : Ix} {K : Rel} {v : Value} {w wr : World} (h : SprM S fb F L q B p x K v w c wr y) (hn : ∀ j, c <= j -> y.mem j = false) : SprR L K x.mem y.mem := by
 refine ⟨h.snd, fun k s => ?_⟩
 induction s with
 | zero =>
  intro j hk hc _;rw [chain_zero] at hc;subst hc;exact h.mono k hk
 | succ s ih =>
  intro j hk hc hj;obtain ⟨a, _, h2, h3, h4⟩ := chain_snoc.1 hc;have ha := ih a hk h3 (by omega);refine h.cpl a j ha ?_ h2 hj h4;exact Decidable.byContradiction fun hac => by rw [hn a (by omega)] at ha; cases ha
structure Spread (S : Nat -> Prop) (fb : Nat) (F : FN) (L B p : Nat) (x : Ix) (K : Rel) (w w' : World) (y : Ix) : Prop where
 stp : Stp S fb F L w' B p y
 fy : y.f = x.f
 is : SprR L K x.mem y.mem
 tur : Turned (fun k => k = F.mb \/ Tch p x k) w w'
 new : ∀ k, Tch p y k -> Tch p x k \/ w.heap.size <= k
 nil : x.ws = [] -> y.ws = []
def SpreadE (S : Nat -> Prop) (fb : Nat) (F : FN) (L B p : Nat) (x : Ix) (K : Rel) (w : World) (e : Ending) (w' : World) : Prop := e = .returned (.tuple #[]) /\ ∃ y, Spread S fb F L B p x K w w' y
set_option maxRecDepth 100000 in
set_option maxHeartbeats 600000 in
theorem spread_is {S : Nat -> Prop} {w : World} {fb L B p q : Nat} {F : FN} {x : Ix} (h : Stp S fb F L w B p x) {v : Value} (hv : StepV (fun k => S k \/ Tch p x k) w fb F.nds q v) {d : ND} (hd : F.nds[q]? = some d) (hFR : FromB fb F q) (hx : InN F.N x.mem) : Calls Tryz.prog 102 #[v, ptrV p] w (SpreadE S fb F L B p x (F.rel d.t) w) := by
 obtain ⟨fid, bs, hfv, hrf⟩ := stepv_form hv;subst hfv;have hsm := h.fin.small;have HNX := lh fun (wr : World) (y : Ix) (h : Stp S fb F L wr B p y) (i : Nat) (hi : i < 1099511627776) => next_ix (own_ix (S := fun _ => False) h.own.row (fun k hk => hk.elim) h.own.ok h.fits) (by omega) i hi h.fin.deb;have HSC := lh fun (wr : World) (y : Ix) (i : Nat) (h : Stp S fb F L wr B p y) (hv : StepV (fun k => S k \/ Tch p y k) wr fb F.nds q (funV fid bs)) (hi : i <= F.N) (hf : y.f <= i / 64) => step_call h hv hFR hd hi hf;unfold Ix.v at HNX;have HS := lh (SprM.start (K := F.rel d.t) h hv);have HIN := lh hx;have HSM := lh hsm;have HFT := lh (F.fit d.t);obtain ⟨K, hK⟩ : ∃ K, K = F.rel d.t := ⟨_, rfl⟩;rw [<- hK] at HSC HS HFT ⊢;obtain ⟨m, hm⟩ : ∃ m, m = x.ws.length := ⟨_, rfl⟩;have c0 := h.own.c0;have c1 := h.own.c1;rw [<- hm] at c1;have HN0 := lh (HNX.out w x h 0 (by decide));rw [<- hm] at HN0;have hpl : p < w.heap.size := World.block_lt_of_cell? w _ c0;unfold RunF at hrf;clear hv hd hFR hx hsm h hK hm;go_enter Tryz.func102, Tryz.ntmps102;go_wp2_with fail;go_at_call 94;refine HN0.out.mono ?_;rintro e w1 ⟨r0, rfl, hr0, hb1⟩;have HR0 := lh hr0;have HS1 := lh (HS.out.below hb1);clear hr0 hb1 c0 c1 hpl;go_upto_region 1 with fail;go_loopw [4] (fun iv wr => ∃ (c : Nat) (r : Int) (y : Ix), iv = .int .i64 r /\ Hid (NextIs y c r) /\ Hid (SprM S fb F L q B p x K (funV fid bs) w c wr y)) (fun iv _ => if intOf iv < 0 then 0 else F.N + 1 - (intOf iv).toNat)
 case atStart => exact ⟨0, r0, x, rfl, HR0, HS1⟩
 case round =>
  obtain ⟨c, r, y, rfl, HR, HY⟩ := hrel;rcases HR.out with ⟨rfl, hn⟩ | ⟨i, rfl, hci, hi, hl⟩
  ·have HP := lh (show SpreadE S fb F L B p x K w (.returned (.tuple #[])) wr from ⟨rfl, y, HY.out.stp, HY.out.fy, HY.out.stop hn, HY.out.tur, HY.out.new, HY.out.nil⟩);clear hn;go_wp2_with fail;go_end0
   exact HP.out
  ·have hiN : i <= F.N := HY.out.inN HFT.out HIN.out i hi;have hi5 : i <= 100000 := Nat.le_trans hiN HSM.out;have hi0 : decide ((0 : Int) <= (i : Int)) = true := dqt (by omega);have hw1 : wrap64 ((i : Int) + 1) = ((i + 1 : Nat) : Int) := IntWalk.wrap64_in _ (by omega);obtain ⟨i1, hi1⟩ : ∃ i1, i1 = i + 1 := ⟨_, rfl⟩;rw [<- hi1] at hw1;have HST := lh (HSC.out wr y i HY.out.stp HY.out.stv hiN (mem_f hi));have HI := lh (aI hci (aI hi (aI hl (aI hiN hi1))));have hi15 : i1 < 1099511627776 := (by omega);clear hci hi hl hiN hi1 hi5;go_wp2_with fail;refine HST.out.mono ?_;rintro e w4 ⟨rfl, y', E, hs⟩;have hgo := HY.out.go hs HI.out.2.1 HI.out.2.2.1;have HG := lh hgo;obtain ⟨n, hny⟩ : ∃ n, n = y'.ws.length := ⟨_, rfl⟩;have p0 := hgo.stp.own.c0;have p1 := hgo.stp.own.c1;rw [<- hny] at p1;have pl : p < w4.heap.size := World.block_lt_of_cell? w4 _ p0;have HN4 := lh (HNX.out w4 y' hgo.stp i1 hi15);rw [<- hny] at HN4;clear hs hgo hny;go_wp2_with fail;go_at_call 94;refine HN4.out.mono ?_;rintro e w5 ⟨r', rfl, hr', hb5⟩;have HR' := lh hr'
   have HG5 := lh (show SprM S fb F L q B p x K (funV fid bs) w i1 w5 y' by
    rw [HI.out.2.2.2.2]
    exact HG.out.below hb5)
   clear hr' hb5 p0 p1 pl;go_wp2_with fail;go_roundw
   case rel => exact ⟨i1, r', y', rfl, HR', HG5⟩
   case measure =>
    have hi := HI.out;simp only [intOf];refine after_meas hi.2.2.2.1 ?_;rcases HR'.out with ⟨h, _⟩ | ⟨j, h, hj, hjx, _⟩
    ·exact .inl h
    ·exact .inr ⟨j, h, by omega, HG5.out.inN HFT.out HIN.out j hjx⟩
open Go.RowKit Go.Deep Go.Sort
structure DropAs (B p : Nat) (x y : Ix) (w1 : World) (k : Nat) (wr : World) (ws : List Nat) : Prop where
 own : OwnI wr B p ⟨x.f, ws, x.A, x.c⟩
 len : ws.length = x.ws.length
 mem : ∀ j, memN x.f ws j = (x.mem j && !memTo' y (x.f + k) j)
 tur : Turned (fun k => x.sl.ownBlock = some k) w1 wr
theorem DropAs.go {B p k a m g : Nat} {x y : Ix} {w1 wr : World} {ws : List Nat} (h : DropAs B p x y w1 k wr ws) (hk : k < x.ws.length) (ha : ws[k]? = some a) (hm : m = wordN y.f y.ws (x.f + k)) (hm64 : m < 18446744073709551616) (ha64 : a < 18446744073709551616) (hA : x.A = some ⟨g, 0, none⟩) :
  DropAs B p x y w1 (k + 1) (wr.setCell ⟨g, k, none⟩ (.int .u64 ((a &&& (18446744073709551615 - m) : Nat) : Int))) (ws.set k (a &&& (18446744073709551615 - m))) := by
 have hv : a &&& (18446744073709551615 - m) < 18446744073709551616 := Nat.lt_of_le_of_lt Nat.and_le_left ha64;refine ⟨h.own.put (x := ⟨x.f, ws, x.A, x.c⟩) hA k _ hv, (List.length_set ..).trans h.len, fun j => ?_, ?_⟩
 ·rw [mem_set (by rw [h.len]; exact hk)];have hj := h.mem j;by_cases e : j / 64 = x.f + k
  ·rw [if_pos e];have hb := and_not_bit a m (j % 64) (Nat.mod_lt _ (by decide));rw [Nat.mod_eq_of_lt hm64] at hb;rw [hb]
   have e1 : memN x.f ws j = a.testBit (j % 64) := by
    unfold memN wordN;rw [if_neg (by omega), show j / 64 - x.f = k by omega, List.getD_eq_getElem?_getD, ha];rfl
   have e2 : y.mem j = m.testBit (j % 64) := by
    unfold Ix.mem memN;rw [e, hm]
   rw [<- e1, hj, <- e2];unfold memTo';rw [dqf (show ¬ j / 64 < x.f + k by omega), dqt (show j / 64 < x.f + (k + 1) by omega), Bool.and_false, Bool.and_true, Bool.not_false, Bool.and_true]
  ·rw [if_neg e, hj];unfold memTo'
   congr 3
   exact decide_eq_decide.2 ⟨fun h => by omega, fun h => by omega⟩
 ·refine Turned.trans (T := fun q => q = g) h.tur ((Turned.refl (fun q => q = g) wr).put' rfl k _) fun q _ hq => ?_;show x.sl.ownBlock = some q;unfold Ix.sl;rw [hA, hq];rfl
theorem DropAs.stays {B p k : Nat} {x y : Ix} {w1 wr w' : World} {ws : List Nat} (h : DropAs B p x y w1 k wr ws) (hb : Below wr.heap.size wr w') : DropAs B p x y w1 k w' ws :=
 ⟨h.own.stays (S := fun _ => False) (Turned.of_below hb) fun _ _ h => h, h.len, h.mem, h.tur.trans (T := fun _ => False) (Turned.of_below hb) fun _ _ h => h.elim⟩
def DropsC (B p : Nat) (x y : Ix) (w : World) (e : Ending) (w' : World) : Prop := e = .returned (.tuple #[]) /\ ∃ ws, OwnI w' B p ⟨x.f, ws, x.A, x.c⟩ /\ (∀ j, memN x.f ws j = (x.mem j && !y.mem j)) /\ ws.length = x.ws.length /\ Turned (fun k => x.sl.ownBlock = some k) w w'
set_option maxRecDepth 100000 in
set_option maxHeartbeats 2000000 in
theorem drops_is {w : World} {B p N : Nat} {x y : Ix} (hx : OwnI w B p x) (hy : IxAt (Tch p x) N w y) (hN : N < 1000000000000) (hfx : x.f + x.ws.length < 100000000000) : Calls Tryz.prog 103 #[.pointer (some ⟨p, 0, none⟩), y.v] w (DropsC B p x y w) := by
 obtain ⟨n, hn⟩ : ∃ n, n = x.ws.length := ⟨_, rfl⟩;have hpl : p < w.heap.size := World.block_lt_of_cell? w ⟨p, 0, none⟩ hx.c0;unfold Ix.v;obtain ⟨W1, hW1⟩ : ∃ W1, W1 = w.alloc (.cells #[.int .i64 (y.f : Int), .slice y.A y.ws.length y.c] 68) := ⟨_, rfl⟩;have hb0 : Below w.heap.size w W1 := (by rw [hW1]; exact bW w _);have hown1 : OwnI W1 B p x := hx.stays (S := fun _ => False) (Turned.of_below hb0) fun _ _ h => h;have hob : W1.heap[w.heap.size]? = some (.cells #[.int .i64 (y.f : Int), .slice y.A y.ws.length y.c] 68) := (by rw [hW1]; exact heap_alloc_new w _)
 have hnt : ¬ Tch p x w.heap.size := fun h => by
  rcases h with h | h
  ·omega
  ·have := (World.ownsRow.lt hx.row _ h).2;omega
 have c1 := hown1.c1;rw [<- hn] at c1;have HW := lh (aI hob (aI hb0 (aI hnt (aI (hy.stays hb0) (aI hn (aI hN hfx))))))
 have HD0 := lh (show DropAs B p x y W1 0 W1 x.ws from ⟨hown1, rfl, fun j => by
  show x.mem j = _;unfold memTo';by_cases h : j / 64 < x.f + 0
  ·have : x.mem j = false := (by unfold Ix.mem memN wordN; rw [if_pos (by omega)]; exact Nat.zero_testBit _);rw [this, Bool.false_and]
  ·rw [dqf h, Bool.and_false, Bool.not_false, Bool.and_true], Turned.refl _ _⟩)
 clear hx hy hN hfx hb0 hown1 hob hnt hpl hn;go_enter Tryz.func103, Tryz.ntmps103;go_upto_region 1 with fail;rw [<- hW1];clear hW1;go_wp2_with fail;clear c1;go_loopw [4, 10] (fun _ kv wr => ∃ (k : Nat) (ws : List Nat), kv = .int .i64 (k : Int) /\ k <= n /\ Hid (DropAs B p x y W1 k wr ws)) (fun _ kv _ => n - (intOf kv).toNat)
 case atStart => exact ⟨0, x.ws, rfl, Nat.zero_le _, HD0⟩
 case round =>
  obtain ⟨k, ws, rfl, hkn, HD⟩ := hrel;by_cases hlt : k < n
  ·have hkI : (k : Int) < (n : Int) := (by omega);have hk0 : (0 : Int) <= (k : Int) := Int.natCast_nonneg _;have hkl : k < ws.length := (by rw [HD.out.len, <- HW.out.2.2.2.2.1]; exact hlt);have hkb : k < 100000000000 := (by have := HW.out.2.2.2.2.2.2; have := HW.out.2.2.2.2.1; omega);obtain ⟨a, ha⟩ : ∃ a, ws[k]? = some a := ⟨ws[k]'hkl, List.getElem?_eq_getElem _⟩;obtain ⟨g, hA, hbk, hc, hfz⟩ := HD.out.own.row_cell ha;simp only at hA hc hfz;have c0 := HD.out.own.c0;have c1 := HD.out.own.c1;simp only at c0 c1;rw [hA, HD.out.len, <- HW.out.2.2.2.2.1] at c1;have hoy := HD.out.tur.obj HW.out.1 (fun h => HW.out.2.2.1 (.inr h));obtain ⟨y0, y1⟩ := two_cells hoy;obtain ⟨m, hm⟩ : ∃ m, m = wordN y.f y.ws (x.f + k) := ⟨_, rfl⟩;have hyr : IxAt (Tch p x) N wr y := HW.out.2.2.2.1.turned (turned_mono HD.out.tur fun _ h => .inr h);have hm64 : m < 18446744073709551616 := (by rw [hm]; exact hyr.ok.at _ _);have ha64 := HD.out.own.ok a (List.mem_of_getElem? ha);have hand : bits .andNot .u64 (a : Int) (m : Int) = ((a &&& (18446744073709551615 - m) : Nat) : Int) := u64_andNot_nat a m ha64 hm64;obtain ⟨v, hv⟩ : ∃ v, v = a &&& (18446744073709551615 - m) := ⟨_, rfl⟩;obtain ⟨q, hq⟩ : ∃ q, q = x.f + k := ⟨_, rfl⟩;have hq40 : q < 1099511627776 := (by have := HW.out.2.2.2.2.2.2; have := HW.out.2.2.2.2.1; omega);have hsum : IntKind.i64.wrap ((x.f : Int) + (k : Int)) = (q : Int) := (by rw [IntWalk.i64_in _ (by omega)]; omega);have HGO := lh fun (W : World) (hW : Below wr.heap.size wr W) => (HD.out.stays hW).go (m := m) (by rw [<- HW.out.2.2.2.2.1]; exact hlt) ha hm hm64 ha64 hA;rw [<- hv] at hand HGO;have HWD := lh fun (W : World) (hW : Below wr.heap.size wr W) => word_is (hyr.stays hW) (by have := HW.out.2.2.2.2.2.1; omega) q hq40;rw [show wordN y.f y.ws q = m by rw [hq, hm]] at HWD;unfold Ix.v at HWD;have hgl : g < wr.heap.size := World.block_lt_of_cell? wr _ hc;have hpl : p < wr.heap.size := World.block_lt_of_cell? wr _ c0;have hwl : w.heap.size < wr.heap.size := lts hoy
   have HC := lh fun (W : World) (hW : Below wr.heap.size wr W) => (show W.cell? ⟨p, 0, none⟩ = some (.int .i64 (x.f : Int)) /\ W.cell? ⟨p, 1, none⟩ = some (.slice (some ⟨g, 0, none⟩) n x.c) /\ W.cell? ⟨g, k, none⟩ = some (.int .u64 (a : Int)) /\ W.frozen? ⟨g, k, none⟩ = false /\ W.cell? ⟨w.heap.size, 0, none⟩ = some (.int .i64 (y.f : Int)) /\ W.cell? ⟨w.heap.size, 1, none⟩ = some (.slice y.A y.ws.length y.c) from
    ⟨(hW.cell hpl).trans c0, (hW.cell hpl).trans c1, (hW.cell hgl).trans hc, (hW.frozen hgl).trans hfz, (hW.cell hwl).trans y0, (hW.cell hwl).trans y1⟩)
   have hwr : wrap64 ((k : Int) + 1) = (k : Int) + 1 := IntWalk.wrap64_in _ (by omega);have HL := lh hlt;clear ha hbk hoy hm hyr hm64 ha64 hv hq hq40 hA hgl hpl hwl hkn hlt hkl;go_upto_region 4 with fail
   go_region_with (go_at_call 55; refine (HWD.out _ (Below.refl _ wr).drew).mono ?_; rintro e w3 ⟨rfl, hb3⟩; have hb4 := (Below.refl wr.heap.size wr).drew.trans hb3; have HB4 := lh hb4; clear c0 c1 hc hfz y0 y1; obtain ⟨c0, c1, hc, hfz, y0, y1⟩ := HC.out w3 hb4; clear hb3 hb4)
   all_goals
    clear c0 c1 hc hfz y0 y1;go_wp2_with fail;go_roundw
    case rel => exact ⟨k + 1, ws.set k v, by go_num, HL.out, lh (HGO.out _ HB4.out)⟩
    case measure => simp only [intOf]; exact bet_meas HL.out
  ·have he : k = n := (by omega);subst he;have hkI : ¬ (k : Int) < (k : Int) := Int.lt_irrefl _;have HP := lh (show DropsC B p x y w (.returned (.tuple #[])) wr from ⟨rfl, ws, HD.out.own, drop_end (by have := HD.out.mem; rwa [HW.out.2.2.2.2.1] at this), HD.out.len, (Turned.of_below HW.out.2.1).trans (T := fun q => x.sl.ownBlock = some q \/ w.heap.size <= q) ⟨HD.out.tur.os, HD.out.tur.tape, HD.out.tur.output, HD.out.tur.size, fun j hj hn => HD.out.tur.block j hj fun h => hn (.inl h)⟩ fun q hq hh => hh.elim id fun h => absurd hq (Nat.not_lt.2 h)⟩);clear hkn hlt;go_wp2_with fail;go_end0
   exact HP.out
end Go.Proofs.YtflkfleihlceeaaGreatDoor

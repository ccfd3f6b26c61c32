/-
  TreePlays: rows of trees and of lists side by side, and one more put behind each. Condition: trees stay while a block turns that is none of theirs.
-/
import Derived.Test.YtcjbhjbjkfgphaaTprow
import Derived.Test.YtcjbhjbjkfgphaaTalike
namespace Go.Proofs.Ytcjbhjbjkfgphaa
open Go.RowKit Go.Deep Go.Maps

/-- What is wanted of trees: they stay while a block turns that is none of theirs; their boxes are no nodes. -/
structure TreeFar (T : World → Option Addr → List FileM → Prop) : Prop where
  far : ∀ {w w' p fs b}, T w p fs → Alien w b → OffB b w w' → T w' p fs
  box : ∀ {w k fs}, T w (some ⟨k, 0, none⟩) fs → ∀ cs fr, w.heap[k]? ≠ some (.cells cs 77 fr)
theorem tree_far : TreeFar TreeIs := ⟨fun hT ha h => TreeIs.alien hT ha h, fun hT cs fr => TreeIs.box hT cs fr⟩
theorem files_far {w w' : World} {b : Nat} {A : Option Addr} {fs : List FileM} (h : FilesAt w A fs) (ha : Alien w b) (ho : OffB b w w') : FilesAt w' A fs := fun i f hi => by
  obtain ⟨g, o, e, hr⟩ := h i f hi
  refine ⟨g, o, e, fun j v hv => ?_⟩
  have hg : g ≠ b := by
    intro hgb
    subst hgb
    exact ha.no_string _ _ (hr 0 _ rfl)
  rw [World.cell?_of_block (ho.block g hg)]
  exact hr j v hv
section
variable {T : World → Option Addr → List FileM → Prop}
/-- An entry: a tree and a list of one content. -/
def EntryOk (T : World → Option Addr → List FileM → Prop) (w : World) (p : Option Addr) (lv : Value) (fs : List FileM) : Prop := T w p fs ∧ ∃ A c, lv = .slice A fs.length c ∧ FilesAt w A fs
structure Ent where
  p : Option Addr
  lv : Value
  fs : List FileM
def ptrsE (es : List Ent) : List Value := es.map fun e => .pointer e.p
def listsE (es : List Ent) : List Value := es.map Ent.lv
/-- The rows while a tree, but no list as yet, may have been put behind. -/
structure PJ (T : World → Option Addr → List FileM → Prop) (w wr : World) (v5 v6 : Value) (es fl : List Ent) : Prop where
  rowT : RowX wr w.heap.size 29 (.pointer none) v5 (ptrsE (es ++ fl))
  rowL : RowX wr w.heap.size 30 (.slice none 0 0) v6 (listsE es)
  each : ∀ e ∈ es ++ fl, EntryOk T wr e.p e.lv e.fs
  below : Below w.heap.size w wr
theorem EntryOk.below {R : World → Option Addr → List UInt8 → Prop} (K : TreeApi R T) {w w' : World} {p : Option Addr} {lv : Value} {fs : List FileM} (h : EntryOk T w p lv fs) (hb : Below w.heap.size w w') : EntryOk T w' p lv fs := by
  obtain ⟨h1, A, c, h2, h3⟩ := h
  exact ⟨K.below h1 hb, A, c, h2, h3.below hb⟩
theorem EntryOk.far (KF : TreeFar T) {w w' : World} {p : Option Addr} {lv : Value} {fs : List FileM} {b : Nat} (h : EntryOk T w p lv fs) (ha : Alien w b) (ho : OffB b w w') : EntryOk T w' p lv fs := by
  obtain ⟨h1, A, c, h2, h3⟩ := h
  exact ⟨KF.far h1 ha ho, A, c, h2, files_far h3 ha ho⟩
theorem PJ.move {R : World → Option Addr → List UInt8 → Prop} (K : TreeApi R T) {w wr wz : World} {v5 v6 : Value} {es fl : List Ent} (h : PJ T w wr v5 v6 es fl) (hb : Below wr.heap.size wr wz) : PJ T w wz v5 v6 es fl :=
  ⟨h.rowT.below hb, h.rowL.below hb, fun e he => (h.each e he).below K hb, h.below.trans (hb.mono h.below.size)⟩
theorem PJ.alienT (KF : TreeFar T) {w wr : World} {v5 v6 : Value} {es fl : List Ent} (h : PJ T w wr v5 v6 es fl) {g : Nat} (hg : v5.ownBlock = some g) : Alien wr g := by
  obtain ⟨g', cap, tail, rfl, _, _, h4⟩ := h.rowT
  have e : some g' = some g := hg
  injection e with e
  subst e
  refine ⟨_, _, _, h4, by decide, by decide, by decide, fun j v hv => ?_⟩
  rw [List.getElem?_toArray] at hv
  have hm := List.mem_of_getElem? hv
  rw [List.mem_append] at hm
  rcases hm with hm | hm
  · obtain ⟨en, hen, rfl⟩ := List.mem_map.1 hm
    refine ⟨fun s e => (by cases e), fun k cs' fr' e => ?_⟩
    injection e with e
    have h1 := (h.each en hen).1
    rw [e] at h1
    exact KF.box h1 cs' fr'
  · have hv2 := List.eq_of_mem_replicate hm
    subst hv2
    exact ⟨fun s e => (by cases e), fun k cs' fr' e => (by cases e)⟩
theorem PJ.alienL {w wr : World} {v5 v6 : Value} {es fl : List Ent} (h : PJ T w wr v5 v6 es fl) {g : Nat} (hg : v6.ownBlock = some g) : Alien wr g := by
  obtain ⟨g', cap, tail, rfl, _, _, h4⟩ := h.rowL
  have e : some g' = some g := hg
  injection e with e
  subst e
  refine ⟨_, _, _, h4, by decide, by decide, by decide, fun j v hv => ?_⟩
  rw [List.getElem?_toArray] at hv
  have hm := List.mem_of_getElem? hv
  rw [List.mem_append] at hm
  rcases hm with hm | hm
  · obtain ⟨en, hen, rfl⟩ := List.mem_map.1 hm
    obtain ⟨_, A, c, h2, _⟩ := h.each en (List.mem_append.2 (.inl hen))
    rw [h2]
    exact ⟨fun s e => (by cases e), fun k cs' fr' e => (by cases e)⟩
  · have hv2 := List.eq_of_mem_replicate hm
    subst hv2
    exact ⟨fun s e => (by cases e), fun k cs' fr' e => (by cases e)⟩
/-- The two rows lie in blocks of their own. -/
theorem PJ.apart {w wr : World} {v5 v6 : Value} {es fl : List Ent} (h : PJ T w wr v5 v6 es fl) : v5.ownBlock ≠ v6.ownBlock := by
  obtain ⟨g, cap, tail, rfl, _, _, h4⟩ := h.rowT
  obtain ⟨g', cap', tail', rfl, _, _, h4'⟩ := h.rowL
  intro e
  have e : some g = some g' := e
  injection e with e
  subst e
  rw [h4] at h4'
  injection h4' with h4'
  injection h4' with _ h5
  exact absurd h5 (by decide)
theorem RowX.turned {w w' : World} {base : Nat} {e : TypeId} {zv v : Value} {xs : List Value} {S : Nat → Prop} (h : RowX w base e zv v xs) (ht : Turned S w w') (hS : ∀ k, v.ownBlock = some k → ¬ S k) : RowX w' base e zv v xs := by
  obtain ⟨g, cap, tail, rfl, h2, h3, h4⟩ := h
  exact ⟨g, cap, tail, rfl, h2, h3, ht.obj h4 (hS g rfl)⟩
set_option maxRecDepth 100000 in
theorem info_tp : (Try.prog.info? 29).map (fun i => (i.zero, i.size, i.bytes)) = some (some (.pointer none), 1, 8) := by kernel_rfl
set_option maxRecDepth 100000 in
theorem info_fl : (Try.prog.info? 30).map (fun i => (i.zero, i.size, i.bytes)) = some (some (.slice none 0 0), 1, 24) := by kernel_rfl
theorem RowX.base {w : World} {b b' : Nat} {e : TypeId} {zv v : Value} {xs : List Value} (h : RowX w b' e zv v xs) (hb : b ≤ b') : RowX w b e zv v xs := by
  obtain ⟨g, cap, tail, h1, h2, h3, h4⟩ := h
  exact ⟨g, cap, tail, h1, Nat.le_trans hb h2, h3, h4⟩
theorem PJ.start {R : World → Option Addr → List UInt8 → Prop} (K : TreeApi R T) (w : World) : PJ T w ((w.alloc (.cells #[.pointer none] 29)).alloc (.cells #[.slice none 0 0] 30)) (.slice (some ⟨w.heap.size, 0, none⟩) 1 1) (.slice (some ⟨(w.alloc (.cells #[.pointer none] 29)).heap.size, 0, none⟩) 1 1) [⟨none, .slice none 0 0, []⟩] [] := by
  have hb1 : Below w.heap.size w (w.alloc (.cells #[.pointer none] 29)) := (Below.refl _ _).alloc (Nat.le_refl _) _
  refine ⟨(RowX.new w _ _ _).below ((Below.refl _ _).alloc (Nat.le_refl _) _), (RowX.new _ _ _ _).base hb1.size, fun e he => ?_, hb1.alloc hb1.size _⟩
  rw [List.append_nil, List.mem_singleton] at he
  subst he
  exact ⟨K.nil _, none, 0, rfl, fun i f hf => by simp at hf⟩
/-- One tree more. -/
theorem wpList_push_tree {R : World → Option Addr → List UInt8 → Prop} (K : TreeApi R T) (KF : TreeFar T) {ops : Array Oper} {rest : List Oper} {a : Act} {Q : Exit → Act → World → Prop} {s x : Operand} {ps : String} {af : Array Edge} {w wr : World} {v5 v6 : Value} {es : List Ent} (d : Tmp) (en : Ent) (hJ : PJ T w wr v5 v6 es []) (hE : EntryOk T wr en.p en.lv en.fs)
    (hs : a.eval s = v5) (hx : a.eval x = .slice (some ⟨wr.heap.size, 0, none⟩) 1 1) (hn : es.length + 1 ≤ 100000)
    (h : ∀ v' w', PJ T w w' v' v6 es [en] → wpList Try.prog ops Q rest (a.put (some d) v') w') :
    wpList Try.prog ops Q ({ dst := some d, op := .call { callee := .builtin .append, args := #[s, x], argTypes := #[23, 23] }, type := 23, pos := ps, after := af, guard := none } :: rest) a (wr.alloc (.cells #[.pointer en.p] 29)) := by
  have hba : Below wr.heap.size wr (wr.alloc (.cells #[.pointer en.p] 29)) := (Below.refl _ _).alloc (Nat.le_refl _) _
  have hcell : (wr.alloc (.cells #[.pointer en.p] 29)).cell? ⟨wr.heap.size, 0, none⟩ = some (.pointer en.p) := by rw [obj_cell (heap_alloc_new wr _)]; rfl
  have hJ1 := hJ.move K hba
  have hE1 := hE.below K hba
  obtain ⟨W, hW⟩ : ∃ W, W = wr.alloc (.cells #[.pointer en.p] 29) := ⟨_, rfl⟩
  rw [← hW] at hba hcell hJ1 hE1 ⊢
  obtain ⟨i, hi, hz, hsz, hby⟩ := info_parts info_tp
  have hrow := hJ1.rowT
  rw [List.append_nil] at hrow
  obtain ⟨v', w', hap, hr', ht, hor⟩ := row_append (by_ := 8) Try.underlying23 hi hz hsz hby (by decide) rfl hrow (.pointer en.p) rfl wr.heap.size hcell (by simpa [ptrsE] using hn) hJ1.below.size
  have hlt := fun k hk => (hJ1.rowT.lt (k := k) hk)
  refine wpList_append_to d hap hs hx (h v' w' ⟨?_, hJ1.rowL.turned ht (fun k hk e => hJ1.apart (e.trans hk.symm)), fun e he => ?_, hJ1.below.trans (ht.below hJ1.below.size fun k hk => (hlt k hk).1)⟩)
  · simpa [ptrsE] using hr'
  · have hee : EntryOk T W e.p e.lv e.fs := by
      rcases List.mem_append.1 he with he | he
      · exact hJ1.each e (List.mem_append.2 (.inl he))
      · rw [List.mem_singleton] at he; rw [he]; exact hE1
    rcases hor with hb | ⟨g, hg, ho⟩
    · exact hee.below K hb
    · exact hee.far KF (hJ1.alienT KF hg) ho
/-- .. and its list. -/
theorem wpList_push_list {R : World → Option Addr → List UInt8 → Prop} (K : TreeApi R T) (KF : TreeFar T) {ops : Array Oper} {rest : List Oper} {a : Act} {Q : Exit → Act → World → Prop} {s x : Operand} {ps : String} {af : Array Edge} {w wr : World} {v5 v6 : Value} {es : List Ent} (d : Tmp) (en : Ent) (hJ : PJ T w wr v5 v6 es [en])
    (hs : a.eval s = v6) (hx : a.eval x = .slice (some ⟨wr.heap.size, 0, none⟩) 1 1) (hn : es.length + 1 ≤ 100000)
    (h : ∀ v' w', PJ T w w' v5 v' (es ++ [en]) [] → wpList Try.prog ops Q rest (a.put (some d) v') w') :
    wpList Try.prog ops Q ({ dst := some d, op := .call { callee := .builtin .append, args := #[s, x], argTypes := #[24, 24] }, type := 24, pos := ps, after := af, guard := none } :: rest) a (wr.alloc (.cells #[en.lv] 30)) := by
  have hba : Below wr.heap.size wr (wr.alloc (.cells #[en.lv] 30)) := (Below.refl _ _).alloc (Nat.le_refl _) _
  have hcell : (wr.alloc (.cells #[en.lv] 30)).cell? ⟨wr.heap.size, 0, none⟩ = some en.lv := by rw [obj_cell (heap_alloc_new wr _)]; rfl
  have hJ1 := hJ.move K hba
  obtain ⟨W, hW⟩ : ∃ W, W = wr.alloc (.cells #[en.lv] 30) := ⟨_, rfl⟩
  rw [← hW] at hba hcell hJ1 ⊢
  obtain ⟨i, hi, hz, hsz, hby⟩ := info_parts info_fl
  have h1c : en.lv.oneCell' = true := by
    obtain ⟨_, A, c, h2, _⟩ := hJ1.each en (by simp)
    rw [h2]
    rfl
  obtain ⟨v', w', hap, hr', ht, hor⟩ := row_append (by_ := 24) Try.underlying24 hi hz hsz hby (by decide) rfl hJ1.rowL en.lv h1c wr.heap.size hcell (by simpa [listsE] using hn) hJ1.below.size
  have hlt := fun k hk => (hJ1.rowL.lt (k := k) hk)
  refine wpList_append_to d hap hs hx (h v' w' ⟨?_, ?_, fun e he => ?_, hJ1.below.trans (ht.below hJ1.below.size fun k hk => (hlt k hk).1)⟩)
  · rw [List.append_nil]
    exact hJ1.rowT.turned ht (fun k hk e => hJ1.apart (hk.trans e.symm))
  · simpa [listsE] using hr'
  · rw [List.append_nil] at he
    have hee := hJ1.each e he
    rcases hor with hb | ⟨g, hg, ho⟩
    · exact hee.below K hb
    · exact hee.far KF (hJ1.alienL hg) ho
end
end Go.Proofs.Ytcjbhjbjkfgphaa

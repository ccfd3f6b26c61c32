/-
  The reference's Sync, and its disk behind an append to its calls. Conditions: those named at each contract.
-/
import Derived.Test.YtficckhhlhcogaaRef2
namespace Go.Proofs.Ytficckhhlhcogaa
open Go.RowKit Go.Maps

theorem info_ref_call : (Try.prog.info? 63).map (fun i => (i.zero, i.size, i.bytes)) = some (some (.agg #[.int .i64 0, .slice none 0 0]), 2, 32) := by kernel_rfl

theorem turned_setCell (w : World) (p o : Nat) (v : Value) : Turned (fun j => j = p) w (w.setCell ⟨p, o, none⟩ v) :=
  ⟨rfl, rfl, rfl, by simp [World.setCell], fun i _ hi => Below.heap_setCell w ⟨p, o, none⟩ v i hi⟩

/-- The call c is the row's last one, and y its bytes. -/
def RefLike (w : World) (Y : Nat → Prop) (cs : List CallM) (rows : List Value) : Prop :=
  ∀ i c, cs[i]? = some c → ∃ v, rows[i * 2]? = some (.int .i64 (if c.sync then -1 else c.n)) ∧ rows[i * 2 + 1]? = some v ∧ (c.sync = false → BS w Y v c.bytes)
theorem RefLike.push {w w' : World} {Y Y' : Nat → Prop} {cs : List CallM} {rows : List Value} (h : RefLike w Y cs rows) (hl : rows.length = cs.length * 2) (hw : ∀ v l, BS w Y v l → BS w' Y' v l) {c : CallM} {y : Value} (hy : c.sync = false → BS w' Y' y c.bytes) :
    RefLike w' Y' (cs ++ [c]) (rows ++ [.int .i64 (if c.sync then -1 else c.n), y]) := by
  intro i d hd
  rcases Nat.lt_or_ge i cs.length with hi | hi
  · rw [List.getElem?_append_left hi] at hd
    obtain ⟨v, h1, h2, h3⟩ := h i d hd
    exact ⟨v, by rw [List.getElem?_append_left (by omega)]; exact h1, by rw [List.getElem?_append_left (by omega)]; exact h2, fun hs => hw _ _ (h3 hs)⟩
  · have he : i = cs.length := by
      have := (List.getElem?_eq_some_iff.1 hd).1
      simp at this
      omega
    subst he
    have hd' : d = c := by simpa using hd.symm
    subst hd'
    refine ⟨y, ?_, ?_, hy⟩
    · rw [List.getElem?_append_right (by omega), hl, Nat.sub_self]; rfl
    · rw [List.getElem?_append_right (by omega), hl, Nat.add_sub_cancel_left]; rfl

/-- What becomes of the reference's disk by one call more. -/
def RefWrote (w : World) (Y : Nat → Prop) (p n : Nat) (vB vL : Value) (B : Int → List UInt8) (cs : List CallM) (Y' : Nat → Prop) (w' : World) : Prop :=
  ∃ vL', RefIs w' Y' p n vB vL' B cs ∧ (vL'.ownBlock = vL.ownBlock ∨ ∃ g, vL'.ownBlock = some g ∧ w.heap.size ≤ g) ∧ Turned (refFoot p vB vL) w w' ∧ ∀ j, Y j → Y' j

theorem ref_of {w w1 w2 : World} {Y Y' : Nat → Prop} {p n : Nat} {vB vL : Value} {B : Int → List UInt8} {cs : List CallM} {bs rows : List Value} {c : CallM} {y : Value} {g cap : Nat}
    (hbox : w.heap[p]? = some (.cells #[.int .i64 (n : Int), vB, vL] 53 (0, 0))) (hB : w.ownsRow 0 31 1 vB n bs) (hBs : ∀ i, i < n → ∃ v, bs[i]? = some v ∧ BS w Y v (B (i : Int)))
    (hL : w.ownsRow 0 63 2 vL cs.length rows) (hLs : RefLike w Y cs rows) (hsep : ∀ j, Y j → ¬ refFoot p vB vL j) (hb : Below w.heap.size w w1) (hgrow : w1.grownBy w2 vL.ownBlock)
    (hown : w2.ownsRow 0 63 2 (.slice (some ⟨g, 0, none⟩) (cs.length + 1) cap) (cs.length + 1) (rows ++ [.int .i64 (if c.sync then -1 else c.n), y]))
    (hat : vL.ownBlock = some g ∨ w.heap.size ≤ g) (hY : ∀ j, Y j → Y' j) (hp : ∀ j, Y' j → j ≠ p) (hy : c.sync = false → BS w2 Y' y c.bytes) :
    RefWrote w Y p n vB vL B (cs ++ [c]) Y' (w2.setCell ⟨p, 2, none⟩ (.slice (some ⟨g, 0, none⟩) (cs.length + 1) cap)) := by
  have np := own_ne hL hbox (by decide)
  have bp := own_ne hB hbox (by decide)
  have bl : ∀ k, vB.ownBlock = some k → vL.ownBlock ≠ some k := by
    intro k hk
    rcases hB.2 with ⟨rfl, _⟩ | ⟨gb, cb, cur, rfl, _, hg, _⟩
    · cases hk
    · injection hk with hk
      subst hk
      exact own_ne hL hg (by decide)
  have t2 : Turned (fun k => vL.ownBlock = some k) w w2 := turned_grown hgrow hb
  have p2 := t2.obj hbox np
  have gp : g ≠ p := by
    rintro rfl
    exact own_ne hown p2 (by decide) rfl
  have ts := turned_setCell w2 p 2 (.slice (some ⟨g, 0, none⟩) (cs.length + 1) cap)
  have hw : ∀ v l, BS w Y v l → BS (w2.setCell ⟨p, 2, none⟩ (.slice (some ⟨g, 0, none⟩) (cs.length + 1) cap)) Y' v l := fun v l h =>
    ((h.turned t2 (fun j hj e => hsep j hj (.inr (.inr e)))).turned ts (fun j hj e => hsep j hj (.inl e))).more hY
  refine ⟨.slice (some ⟨g, 0, none⟩) (cs.length + 1) cap, ⟨?_, ⟨bs, ownsRow_setCell_other (ownsRow_turned hB t2 bl) bp _, fun i hi => ?_⟩, ⟨rows ++ [.int .i64 (if c.sync then -1 else c.n), y], ?_, ?_⟩⟩, ?_, ?_, hY⟩
  · exact heap_setCell_same w2 p 2 _ _ (.slice (some ⟨g, 0, none⟩) (cs.length + 1) cap) p2
  · obtain ⟨v, h1, h2⟩ := hBs i hi
    exact ⟨v, h1, hw _ _ h2⟩
  · rw [List.length_append]
    exact ownsRow_setCell_other hown (by simp [Value.ownBlock]; exact gp) _
  · exact hLs.push hL.1 hw (fun hs => (hy hs).turned ts (fun j hj e => hp j hj e))
  · rcases hat with hat | hat
    · exact .inl (by rw [hat]; rfl)
    · exact .inr ⟨g, rfl, hat⟩
  · refine ⟨t2.os, t2.tape, t2.output, by simpa [World.setCell] using t2.size, fun k hk hn => ?_⟩
    exact (Below.heap_setCell _ _ _ _ (fun e => hn (.inl e))).trans (t2.block k hk (fun e => hn (.inr (.inr e))))

set_option maxRecDepth 100000 in
set_option maxHeartbeats 1000000 in
theorem ref_sync (Y : Nat → Prop) (p n : Nat) (vB vL : Value) (B : Int → List UInt8) (cs : List CallM) (w : World) (h : RefIs w Y p n vB vL B cs) (hsep : ∀ j, Y j → ¬ refFoot p vB vL j) (hcs : cs.length ≤ 1073741824) :
    Calls Try.prog 13 #[.pointer (some ⟨p, 0, none⟩)] w fun e w' => e = .returned (.int .i64 0) ∧ RefWrote w Y p n vB vL B (cs ++ [syncM]) Y w' := by
  obtain ⟨hbox, ⟨bs, hB, hBs⟩, ⟨rows, hL, hLs⟩⟩ := h
  have c2 : w.cell? ⟨p, 2, none⟩ = some vL := cell_of_row _ _ 2 _ _ _ hbox
  have fz : w.frozen? ⟨p, 2, none⟩ = false := frozen_of_row w p 2 _ _ hbox
  have lp := World.block_lt_of_cell? w _ c2
  have np := own_ne hL hbox (by decide)
  obtain ⟨i0, hi0, hz0, hz1, hz2⟩ := info_parts info_ref_call
  have HO := Lib.hid hL
  have HN := Lib.hid np
  have HCS := Lib.hid hcs
  have HBX := Lib.hid hbox
  have HB := Lib.hid hB
  have HBS := Lib.hid hBs
  have HLS := Lib.hid hLs
  have HSP := Lib.hid hsep
  clear np hcs hbox hB hBs hL hLs hsep
  go_enter Try.func13, Try.ntmps13
  go_wp2_with (at_builtin; refine wpList_append_lies _ rfl _ _ _ rfl 0 63 i0 _ 2 32 Try.underlying51 hi0 hz0 hz1 hz2 (by rfl) (by omega) vL cs.length rows rfl (HO.out.alloc _) ⟨w.heap.size, 0, none⟩ 1 1 [.int .i64 (-1), .slice none 0 0] rfl rfl (World.news_of_block (cs := #[.int .i64 (-1), .slice none 0 0]) (t := 63) (fr := (0, 0)) (heap_alloc_new w _)) (by simp [Value.oneCell']) (by omega) (by have := HCS.out; unfold maxLen; omega) (by have := HCS.out; omega) (by simp) (w.heap.size + 1) (by simp) ?_; intro gg cap1 w2 hown1 hgrow hat hlt; have c3' := cell_grown hgrow ((World.cell?_alloc_lt w _ _ lp).trans c2) HN.out; have f3' := frozen_grown hgrow ((World.cell?_alloc_lt w _ _ lp).trans c2) ((World.frozen?_of_block (Below.heap_alloc w _ p lp)).trans fz) HN.out)
  go_ret
  refine ⟨rfl, ref_of HBX.out HB.out HBS.out HO.out HLS.out HSP.out ((Below.refl _ _).alloc (Nat.le_refl _) _) hgrow hown1 (hat.imp id (fun e => by omega)) (fun _ h => h) (fun j hj e => HSP.out j hj (.inl e)) (fun h => by cases h)⟩
end Go.Proofs.Ytficckhhlhcogaa

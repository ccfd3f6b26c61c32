/-
  A node of three files as its two halves and the file between them. No condition.
-/
import Derived.Test.YtcjbhjbjkfgphaaNpart
namespace Go.Proofs.Ytcjbhjbjkfgphaa
open Go.RowKit Go.Deep

/-- The three cells of a file among a node's, as the walk reads them. -/
theorem NodeAt.file {w : World} {b : Nat} {fs : List FX} {ad : List Nat} (h : NodeAt w b fs ad) : ∃ A1 c1, (∀ W, Below w.heap.size w W → W.cell? ⟨b, 0, none⟩ = some (.slice A1 fs.length c1)) ∧ fs.length ≤ c1 ∧ RawAt w A1 (xsV fs) ∧
    ∀ i x, fs[i]? = some x → ∃ g o, A1 = some ⟨g, o, none⟩ ∧ ∀ W, Below w.heap.size w W → W.cell? ⟨g, o + i * 3, none⟩ = some (.string x.f.path) ∧ W.cell? ⟨g, o + i * 3 + 1, none⟩ = some (.int .i64 x.f.ver) ∧ W.cell? ⟨g, o + i * 3 + 2, none⟩ = some (.pointer x.q) := by
  have hbl := h.lt
  obtain ⟨A1, c1, A2, c2, hb, hc, _, h1, _⟩ := h
  refine ⟨A1, c1, fun W hW => (hW.cell (p := ⟨b, 0, none⟩) hbl).trans (obj_cell hb 0), hc, h1, fun i x hx => ?_⟩
  obtain ⟨g, o, e, h0⟩ := h1.cell (xsV_at i x hx 0 _ rfl)
  refine ⟨g, o, e, fun W hW => ?_⟩
  obtain ⟨g0, o0, e0, k0⟩ := (h1.below hW).cell (xsV_at i x hx 0 _ rfl)
  obtain ⟨g1, o1, e1, k1⟩ := (h1.below hW).cell (xsV_at i x hx 1 _ rfl)
  obtain ⟨g2, o2, e2, k2⟩ := (h1.below hW).cell (xsV_at i x hx 2 _ rfl)
  subst e
  cases e0
  cases e1
  cases e2
  exact ⟨by rw [Nat.add_zero] at k0; exact k0, by rw [Nat.add_assoc]; exact k1, by rw [Nat.add_assoc]; exact k2⟩
def HalvesAre (x0 x1 x2 : FX) (ad : List Nat) (w : World) (e : Ending) (w' : World) : Prop := ∃ a b, e = .returned (.tuple #[.pointer (some ⟨a, 0, none⟩), .agg #[.string x1.f.path, .int .i64 x1.f.ver, .pointer x1.q], .pointer (some ⟨b, 0, none⟩)]) ∧ NodeAt w' a [x0] (ad.take 2) ∧ NodeAt w' b [x2] (ad.drop 2) ∧ Below w.heap.size w w'

set_option maxRecDepth 100000 in
set_option maxHeartbeats 2000000 in
theorem halves_are {w : World} {b : Nat} {x0 x1 x2 : FX} {ad : List Nat} (h : NodeAt w b [x0, x1, x2] ad) (hk : ad = [] ∨ ad.length = 4) : Calls Try.prog 30 #[.pointer (some ⟨b, 0, none⟩)] w (HalvesAre x0 x1 x2 ad w) := by
  obtain ⟨A1, c1, HB0, _, _, hfile⟩ := h.file
  obtain ⟨g, o, rfl, hf⟩ := hfile 1 x1 rfl
  have HS := Lib.hid fun (W : World) (hW : Below w.heap.size w W) => (⟨HB0 W hW, (hf W hW).1, (hf W hW).2.1, (hf W hW).2.2⟩ : W.cell? ⟨b, 0, none⟩ = some (.slice (some ⟨g, o, none⟩) 3 c1) ∧ W.cell? ⟨g, o + 3, none⟩ = some (.string x1.f.path) ∧ W.cell? ⟨g, o + 3 + 1, none⟩ = some (.int .i64 x1.f.ver) ∧ W.cell? ⟨g, o + 3 + 2, none⟩ = some (.pointer x1.q))
  have HP1 := Lib.hid fun (W : World) (hW : Below w.heap.size w W) => show Calls Try.prog 43 #[.pointer (some ⟨b, 0, none⟩), .int .i64 0, .int .i64 1] W (MadeP [x0] (ad.take 2) W) from part_is (h.below hW) 0 1 (by omega) (by simp) (by simp) hk
  have HP2 := Lib.hid fun (W : World) (hW : Below w.heap.size w W) => show Calls Try.prog 43 #[.pointer (some ⟨b, 0, none⟩), .int .i64 2, .int .i64 3] W (MadeP [x2] (ad.drop 2) W) from by
    have := part_is (h.below hW) 2 3 (by omega) (by simp) (by simp) hk
    rw [show ad.take (3 + 1) = ad from List.take_of_length_le (by rcases hk with hk | hk <;> simp [hk])] at this
    exact this
  obtain ⟨OF, eOF⟩ : ∃ O, O = Obj.cells #[.string ⟨#[]⟩, .int .i64 0, .pointer none] 68 := ⟨_, rfl⟩
  have hb0 : Below w.heap.size w (w.alloc OF) := (Below.refl _ w).alloc (Nat.le_refl _) OF
  have HNEW := Lib.hid (heap_alloc_new w OF)
  have HSZ := Lib.hid (show (w.alloc OF).heap.size = w.heap.size + 1 by simp)
  have HS0 := Lib.hid (HS.out _ hb0)
  have HBA := Lib.hid hb0
  rw [eOF] at HNEW HSZ HS0 HBA
  obtain ⟨f0, f1, f2, f3⟩ := HS0.out
  have HBD := Lib.hid HBA.out.drew
  have HSL := Lib.hid (show w.heap.size < ((w.alloc (.cells #[.string ⟨#[]⟩, .int .i64 0, .pointer none] 68)).drew).heap.size from by rw [show ((w.alloc (.cells #[.string ⟨#[]⟩, .int .i64 0, .pointer none] 68)).drew).heap.size = _ from HSZ.out]; omega)
  have q2 : IntKind.i64.wrap 2 = 2 := rfl
  clear hb0 eOF hf HB0 h hk hfile
  go_enter Try.func30, Try.ntmps30
  go_wp2_with fail
  go_region_held3 (fun wx => wx.cell? ⟨b, 0, none⟩ = some (.slice (some ⟨g, o, none⟩) 3 c1) ∧ wx.cell? ⟨g, o + 3, none⟩ = some (.string x1.f.path) ∧ wx.cell? ⟨g, o + 3 + 1, none⟩ = some (.int .i64 x1.f.ver) ∧ wx.cell? ⟨g, o + 3 + 2, none⟩ = some (.pointer x1.q))
    ((first | assumption | exact HS0.out | exact HS.out _ HBD.out | exact HS.out _ HB1.out | exact HS.out _ HB2.out | exact HS.out _ (((HB2.out.setCell (Nat.le_refl _) _).setCell (Nat.le_refl _) _).setCell (Nat.le_refl _) _)))
    (first
      | (go_at_call 43; (with_reducible refine (HP1.out _ HBD.out).mono ?_); rintro e w1 ⟨a, rfl, ha, hb1⟩; have HB1 := Lib.hid (HBD.out.trans (hb1.mono HBD.out.size)); have HN1 := Lib.hid (hb1.block w.heap.size HSL.out); have HA := Lib.hid (ha w.heap.size HSL.out); have hb1s := Lib.hid hb1.size; clear ha hb1)
      | (go_at_call 43; (with_reducible refine (HP2.out _ HB1.out).mono ?_); rintro e w2 ⟨a2, rfl, ha2, hb2⟩; have HB2 := Lib.hid (HB1.out.trans (hb2.mono HB1.out.size)); have HA2 := Lib.hid (ha2 w.heap.size (Nat.lt_of_lt_of_le HSL.out hb1s.out)); have HA1 := Lib.hid (HA.out.below hb2); have hob := (hb2.block w.heap.size (Nat.lt_of_lt_of_le HSL.out hb1s.out)).trans (HN1.out.trans HNEW.out); have z0 := obj_cell hob 0; have z1 := obj_cell hob 1; have z2 := obj_cell hob 2; have y0 := frozen_of_row w2 w.heap.size 0 _ _ hob; have y1 := frozen_of_row w2 w.heap.size 1 _ _ hob; have y2 := frozen_of_row w2 w.heap.size 2 _ _ hob; have HOB := Lib.hid hob; clear hob ha2 hb2))
  all_goals go_wp2_with fail
  have hb0 := Lib.hid (((HB2.out.setCell (p := ⟨w.heap.size, 0, none⟩) (Nat.le_refl _) (.string x1.f.path)).setCell (p := ⟨w.heap.size, 1, none⟩) (Nat.le_refl _) (.int .i64 x1.f.ver)).setCell (p := ⟨w.heap.size, 2, none⟩) (Nat.le_refl _) (.pointer x1.q))
  have hob3 := Go.Joins.block_setCell (i := 2) (Go.Joins.block_setCell (i := 1) (Go.Joins.block_setCell (i := 0) HOB.out (.string x1.f.path)) (.int .i64 x1.f.ver)) (.pointer x1.q)
  have q0 := obj_cell hob3 0
  have q1 := obj_cell hob3 1
  have q2 := obj_cell hob3 2
  simp at q0 q1 q2
  refine bodyPost_ret (v := .tuple #[.pointer (some ⟨a, 0, none⟩), .agg #[.string x1.f.path, .int .i64 x1.f.ver, .pointer x1.q], .pointer (some ⟨a2, 0, none⟩)]) (by simp [results, Try.results30, go_sem, q0, q1, q2]) rfl ⟨a, a2, rfl, ?_, ?_, hb0.out⟩
  · exact HA1.out.set.set.set.at
  · exact HA2.out.set.set.set.at
end Go.Proofs.Ytcjbhjbjkfgphaa

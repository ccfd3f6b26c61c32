/-
  The program's turned: two ropes joined whose depths differ by little. Condition: both together are no longer than 65536 bytes, neither is empty.
-/
import Derived.Test.YtcjbhjbjkfgphaaRtree
import Derived.Deep.RegionHeld3
import Derived.Deep.QuietTactic
import Derived.BigQuiet
namespace Go.Proofs.Ytcjbhjbjkfgphaa
open Go.RowKit Go.Deep

/-- What a call answers that makes some rope of the text l. -/
def MadeText (l : List UInt8) (w : World) (e : Ending) (w' : World) : Prop := ∃ t, RT.ok t ∧ t.text = l ∧ Made t w e w'
theorem IsRT.at {w w' : World} (hb : Below w.heap.size w w') {b : Nat} {t : RT} (h : IsRT w b t) : IsRT w' b t := h.below hb
/-- The cells of a joint, in whatever world comes behind. -/
theorem node_cells {w W : World} {b x y : Nat} {l r : RT} (h : w.heap[b]? = some (.cells (nodeCells l r x y) 110 (0, 0))) (hb : Below w.heap.size w W) :
    W.cell? ⟨b, 1, none⟩ = some (.pointer (some ⟨x, 0, none⟩)) ∧ W.cell? ⟨b, 2, none⟩ = some (.pointer (some ⟨y, 0, none⟩)) := by
  have h' := Below.obj hb h (lt_of_some h)
  exact ⟨cell_of_obj h' 1, cell_of_obj h' 2⟩
theorem below_drewN' (w : World) (n : Nat) : Below w.heap.size w (w.drewN n) := ⟨rfl, rfl, rfl, Nat.le_refl _, fun _ _ => rfl⟩
theorem top_depth {w W : World} {b : Nat} {t : RT} (h : IsRT w b t) (hb : Below w.heap.size w W) : W.cell? ⟨b, 5, none⟩ = some (.int .i64 (t.depth : Int)) := (h.below hb).depthC

set_option maxRecDepth 100000 in
set_option maxHeartbeats 2000000 in
theorem turned_a1 {l p q b : RT} {w : World} {x y xl xr xp xq : Nat} (h1 : w.heap[x]? = some (.cells (nodeCells l (.node p q) xl xr) 110 (0, 0))) (hl : IsRT w xl l) (h2 : w.heap[xr]? = some (.cells (nodeCells p q xp xq) 110 (0, 0))) (hp : IsRT w xp p) (hq : IsRT w xq q) (hb : IsRT w y b)
    (hn : l.text.length + p.text.length + q.text.length + b.text.length ≤ 65536) (kl : l.depth ≤ 65533) (kp : p.depth ≤ 65533) (kq : q.depth ≤ 65533) (kb : b.depth ≤ 65533) (hd : b.depth + 1 < (RT.node l (.node p q)).depth) (hd2 : l.depth < (RT.node p q).depth) :
    Calls Try.prog 52 #[.pointer (some ⟨x, 0, none⟩), .pointer (some ⟨y, 0, none⟩)] w (Made (.node (.node l p) (.node q b)) w) := by
  have hx : IsRT w x (.node l (.node p q)) := ⟨xl, xr, h1, hl, xp, xq, h2, hp, hq⟩
  have hxr : IsRT w xr (.node p q) := ⟨xp, xq, h2, hp, hq⟩
  have d1 := hx.depthC
  have d2 := hb.depthC
  have d3 := hxr.depthC
  have d4 := hl.depthC
  obtain ⟨da, eda⟩ : ∃ k, k = (RT.node l (.node p q)).depth := ⟨_, rfl⟩
  obtain ⟨db, edb⟩ : ∃ k, k = b.depth := ⟨_, rfl⟩
  obtain ⟨dr, edr⟩ : ∃ k, k = (RT.node p q).depth := ⟨_, rfl⟩
  obtain ⟨dl, edl⟩ : ∃ k, k = l.depth := ⟨_, rfl⟩
  rw [← eda] at d1 hd
  rw [← edb] at d2 hd
  rw [← edr] at d3 hd2
  rw [← edl] at d4 hd2
  obtain ⟨c1, c2⟩ := node_cells h1 (Below.refl _ w)
  obtain ⟨e1, e2⟩ := node_cells h2 (Below.refl _ w)
  obtain ⟨db1, edb1⟩ : ∃ k, k = db + 1 := ⟨_, rfl⟩
  have q1 : IntKind.i64.wrap ((db : Int) + 1) = (db1 : Int) := by rw [show (db : Int) + 1 = (db1 : Int) by omega]; exact IntWalk.i64_in _ (by omega)
  have g1 : decide (db1 < da) = true := by simp; omega
  have g1i : decide ((db1 : Int) < (da : Int)) = true := by simp; omega
  have g2 : decide (dl < dr) = true := by simp; omega
  have g2i : decide ((dl : Int) < (dr : Int)) = true := by simp; omega
  have HJ1 := Lib.hid fun (W : World) (hb : Below w.heap.size w W) => joint_new (hl.below hb) (hp.below hb) (by omega) (by omega) (by omega)
  have HJ2 := Lib.hid fun (W : World) (hB : Below w.heap.size w W) => joint_new (hq.below hB) (hb.below hB) (by omega) (by omega) (by omega)
  have HJ3 := Lib.hid fun (W : World) (u v : Nat) (hu : IsRT W u (.node l p)) (hv : IsRT W v (.node q b)) => joint_new hu hv (by simp only [RT.text, List.length_append]; omega) (by simp only [RT.depth]; omega) (by simp only [RT.depth]; omega)
  have HC := Lib.hid fun (W : World) (hb : Below w.heap.size w W) => show W.cell? ⟨x, 1, none⟩ = some (.pointer (some ⟨xl, 0, none⟩)) ∧ W.cell? ⟨x, 2, none⟩ = some (.pointer (some ⟨xr, 0, none⟩)) ∧ W.cell? ⟨xr, 1, none⟩ = some (.pointer (some ⟨xp, 0, none⟩)) ∧ W.cell? ⟨xr, 2, none⟩ = some (.pointer (some ⟨xq, 0, none⟩)) from
    ⟨(node_cells h1 hb).1, (node_cells h1 hb).2, (node_cells h2 hb).1, (node_cells h2 hb).2⟩
  clear h1 hl h2 hp hq hb hn kl kp kq kb hd hd2 hx hxr eda edb edr edl edb1
  go_enter Try.func52, Try.ntmps52
  go_wp2_with fail
  go_quiet (fail)
  have hb0 : Below w.heap.size w (w.drewN nq) := below_drewN' w nq
  generalize w.drewN nq = w0 at hb0 ⊢
  have HB0 := Lib.hid hb0
  have HBD := Lib.hid hb0.drew
  obtain ⟨f1, f2, f3, f4⟩ := HC.out w0 hb0
  clear hb0 c1 c2 e1 e2 d1 d2 d3 d4
  go_wp2_with fail
  go_region_held3 (fun wx => wx.cell? ⟨x, 1, none⟩ = some (.pointer (some ⟨xl, 0, none⟩)) ∧ wx.cell? ⟨x, 2, none⟩ = some (.pointer (some ⟨xr, 0, none⟩)) ∧ wx.cell? ⟨xr, 1, none⟩ = some (.pointer (some ⟨xp, 0, none⟩)) ∧ wx.cell? ⟨xr, 2, none⟩ = some (.pointer (some ⟨xq, 0, none⟩)))
    ((first | assumption | exact ⟨f1, f2, f3, f4⟩ | exact HC.out _ HC1.out | exact HC.out _ HC2.out | exact HC.out _ HC3.out))
    (first
      | (go_at_call 53; (with_reducible refine (HJ1.out _ HBD.out).mono ?_); rintro e w1 ⟨u, rfl, hu, hb1⟩; have HC1 := Lib.hid (HBD.out.trans (hb1.mono HBD.out.size)); have HU := Lib.hid hu; clear hu hb1)
      | (go_at_call 53; (with_reducible refine (HJ2.out _ HC1.out).mono ?_); rintro e w2 ⟨v, rfl, hv, hb2⟩; have HC2 := Lib.hid (HC1.out.trans (hb2.mono HC1.out.size)); have HV := Lib.hid hv; have HU2 := Lib.hid (HU.out.below hb2); clear hv hb2)
      | (go_at_call 53; (with_reducible refine (HJ3.out _ _ _ HU2.out HV.out).mono ?_); rintro e w3 ⟨z, rfl, hz, hb3⟩; have HC3 := Lib.hid (HC2.out.trans (hb3.mono HC2.out.size)); have HZ := Lib.hid hz; clear hz hb3))
  go_wp2_with fail
  go_ret
  exact ⟨_, rfl, HZ.out, HC3.out⟩
end Go.Proofs.Ytcjbhjbjkfgphaa

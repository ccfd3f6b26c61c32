/-
  The program's turned: its other ways, and all of them as one. Condition: both together are no longer than 65536 bytes, neither is empty.
-/
import Derived.Test.YtcjbhjbjkfgphaaRturn1
namespace Go.Proofs.Ytcjbhjbjkfgphaa
open Go.RowKit Go.Deep

set_option maxRecDepth 100000 in
set_option maxHeartbeats 2000000 in
theorem turned_a2 {l r b : RT} {w : World} {x y xl xr : Nat} (h1 : w.heap[x]? = some (.cells (nodeCells l r xl xr) 110 (0, 0))) (hl : IsRT w xl l) (hr : IsRT w xr r) (hb : IsRT w y b) (hn : l.text.length + r.text.length + b.text.length ≤ 65536) (kl : l.depth ≤ 65533) (kr : r.depth ≤ 65533) (kb : b.depth ≤ 65533) (hd : b.depth + 1 < (RT.node l r).depth) (hd2 : ¬ l.depth < r.depth) :
    Calls Try.prog 52 #[.pointer (some ⟨x, 0, none⟩), .pointer (some ⟨y, 0, none⟩)] w (Made (.node l (.node r b)) w) := by
  have hx : IsRT w x (.node l r) := ⟨xl, xr, h1, hl, hr⟩
  obtain ⟨da, eda⟩ : ∃ k, k = (RT.node l r).depth := ⟨_, rfl⟩
  obtain ⟨db, edb⟩ : ∃ k, k = b.depth := ⟨_, rfl⟩
  obtain ⟨dr, edr⟩ : ∃ k, k = r.depth := ⟨_, rfl⟩
  obtain ⟨dl, edl⟩ : ∃ k, k = l.depth := ⟨_, rfl⟩
  rw [← eda, ← edb] at hd
  rw [← edr, ← edl] at hd2
  obtain ⟨db1, edb1⟩ : ∃ k, k = db + 1 := ⟨_, rfl⟩
  have qdb1 : IntKind.i64.wrap ((db : Int) + 1) = (db1 : Int) := by rw [show (db : Int) + 1 = (db1 : Int) by omega]; exact IntWalk.i64_in _ (by omega)
  have g1 : decide (db1 < da) = true := by simp; omega
  have g1i : decide ((db1 : Int) < (da : Int)) = true := by simp; omega
  have g2 : decide (dl < dr) = false := by simp; omega
  have g2i : decide ((dl : Int) < (dr : Int)) = false := by simp; omega
  have HJ1 := Lib.hid fun (W : World) (hB : Below w.heap.size w W) => joint_new (hr.below hB) (hb.below hB) (by omega) (by omega) (by omega)
  have HJ2 := Lib.hid fun (W : World) (u : Nat) (hB : Below w.heap.size w W) (hu : IsRT W u (.node r b)) => joint_new (hl.below hB) hu (by simp only [RT.text, List.length_append]; omega) (by omega) (by simp only [RT.depth]; omega)
  have HC := Lib.hid fun (W : World) (hB : Below w.heap.size w W) => show (fun wx : World => wx.cell? ⟨x, 1, none⟩ = some (.pointer (some ⟨xl, 0, none⟩)) ∧ wx.cell? ⟨x, 2, none⟩ = some (.pointer (some ⟨xr, 0, none⟩)) ∧ wx.cell? ⟨x, 5, none⟩ = some (.int .i64 (da : Int)) ∧ wx.cell? ⟨y, 5, none⟩ = some (.int .i64 (db : Int)) ∧ wx.cell? ⟨xr, 5, none⟩ = some (.int .i64 (dr : Int)) ∧ wx.cell? ⟨xl, 5, none⟩ = some (.int .i64 (dl : Int))) W from
    ⟨(node_cells h1 hB).1, (node_cells h1 hB).2, eda ▸ top_depth hx hB, edb ▸ top_depth hb hB, edr ▸ top_depth hr hB, edl ▸ top_depth hl hB⟩
  obtain ⟨f0, f1, f2, f3, f4, f5⟩ := HC.out w (Below.refl _ w)
  have HBa := Lib.hid (Below.refl w.heap.size w)
  clear h1 hl hr hb hn kl kr kb hd hd2 hx eda edb edr edl edb1
  go_enter Try.func52, Try.ntmps52
  go_wp2_with fail
  go_quiet (fail)
  have hb0 := HBa.out.trans ((below_drewN' w nq).mono HBa.out.size)
  generalize w.drewN nq = v0 at hb0 ⊢
  have HB0 := Lib.hid hb0
  clear f0 f1 f2 f3 f4 f5
  obtain ⟨f0, f1, f2, f3, f4, f5⟩ := HC.out v0 hb0
  clear hb0
  go_wp2_with fail
  go_quiet (fail)
  have hb1 := HB0.out.trans ((below_drewN' v0 nq).mono HB0.out.size)
  generalize v0.drewN nq = v1 at hb1 ⊢
  have HB1 := Lib.hid hb1
  clear f0 f1 f2 f3 f4 f5
  obtain ⟨f0, f1, f2, f3, f4, f5⟩ := HC.out v1 hb1
  clear hb1
  have HBD := Lib.hid HB1.out.drew
  go_wp2_with fail
  go_region_held3 (fun wx => wx.cell? ⟨x, 1, none⟩ = some (.pointer (some ⟨xl, 0, none⟩)) ∧ wx.cell? ⟨x, 2, none⟩ = some (.pointer (some ⟨xr, 0, none⟩)) ∧ wx.cell? ⟨x, 5, none⟩ = some (.int .i64 (da : Int)) ∧ wx.cell? ⟨y, 5, none⟩ = some (.int .i64 (db : Int)) ∧ wx.cell? ⟨xr, 5, none⟩ = some (.int .i64 (dr : Int)) ∧ wx.cell? ⟨xl, 5, none⟩ = some (.int .i64 (dl : Int)))
    ((first | assumption | exact ⟨f0, f1, f2, f3, f4, f5⟩ | exact HC.out _ HC1.out | exact HC.out _ HC2.out | exact HC.out _ HC3.out))
    (first
      | (go_at_call 53; (with_reducible refine (HJ1.out _ HBD.out).mono ?_); rintro e w1 ⟨u1, rfl, hu1, hb1⟩; have HC1 := Lib.hid (HBD.out.trans (hb1.mono HBD.out.size)); have HU1 := Lib.hid hu1; clear hu1 hb1)
      | (go_at_call 53; (with_reducible refine (HJ2.out _ _ HC1.out HU1.out).mono ?_); rintro e w2 ⟨u2, rfl, hu2, hb2⟩; have HC2 := Lib.hid (HC1.out.trans (hb2.mono HC1.out.size)); have HZ := Lib.hid hu2; clear hu2 hb2))
  go_wp2_with fail
  go_ret
  exact ⟨_, rfl, HZ.out, HC2.out⟩

set_option maxRecDepth 100000 in
set_option maxHeartbeats 2000000 in
theorem turned_b1 {a p q r : RT} {w : World} {x y yl yr yp yq : Nat} (h1 : w.heap[y]? = some (.cells (nodeCells (.node p q) r yl yr) 110 (0, 0))) (h2 : w.heap[yl]? = some (.cells (nodeCells p q yp yq) 110 (0, 0))) (ha : IsRT w x a) (hp : IsRT w yp p) (hq : IsRT w yq q) (hr : IsRT w yr r) (hn : a.text.length + p.text.length + q.text.length + r.text.length ≤ 65536) (ka : a.depth ≤ 65533) (kp : p.depth ≤ 65533) (kq : q.depth ≤ 65533) (kr : r.depth ≤ 65532) (hd : a.depth + 1 < (RT.node (.node p q) r).depth) (hd2 : r.depth < (RT.node p q).depth) :
    Calls Try.prog 52 #[.pointer (some ⟨x, 0, none⟩), .pointer (some ⟨y, 0, none⟩)] w (Made (.node (.node a p) (.node q r)) w) := by
  have hyl : IsRT w yl (.node p q) := ⟨yp, yq, h2, hp, hq⟩
  have hy : IsRT w y (.node (.node p q) r) := ⟨yl, yr, h1, hyl, hr⟩
  have hdb : (RT.node (.node p q) r).depth ≤ 65535 := by simp only [RT.depth]; omega
  obtain ⟨da, eda⟩ : ∃ k, k = a.depth := ⟨_, rfl⟩
  obtain ⟨db, edb⟩ : ∃ k, k = (RT.node (.node p q) r).depth := ⟨_, rfl⟩
  obtain ⟨dr, edr⟩ : ∃ k, k = r.depth := ⟨_, rfl⟩
  obtain ⟨dl, edl⟩ : ∃ k, k = (RT.node p q).depth := ⟨_, rfl⟩
  rw [← eda, ← edb] at hd
  rw [← edb] at hdb
  rw [← edr, ← edl] at hd2
  obtain ⟨db1, edb1⟩ : ∃ k, k = db + 1 := ⟨_, rfl⟩
  have qdb1 : IntKind.i64.wrap ((db : Int) + 1) = (db1 : Int) := by rw [show (db : Int) + 1 = (db1 : Int) by omega]; exact IntWalk.i64_in _ (by omega)
  obtain ⟨da1, eda1⟩ : ∃ k, k = da + 1 := ⟨_, rfl⟩
  have qda1 : IntKind.i64.wrap ((da : Int) + 1) = (da1 : Int) := by rw [show (da : Int) + 1 = (da1 : Int) by omega]; exact IntWalk.i64_in _ (by omega)
  clear hdb
  have g1 : decide (db1 < da) = false := by simp; omega
  have g1i : decide ((db1 : Int) < (da : Int)) = false := by simp; omega
  have g2 : decide (da1 < db) = true := by simp; omega
  have g2i : decide ((da1 : Int) < (db : Int)) = true := by simp; omega
  have g3 : decide (dr < dl) = true := by simp; omega
  have g3i : decide ((dr : Int) < (dl : Int)) = true := by simp; omega
  have HJ1 := Lib.hid fun (W : World) (hB : Below w.heap.size w W) => joint_new (ha.below hB) (hp.below hB) (by omega) (by omega) (by omega)
  have HJ2 := Lib.hid fun (W : World) (hB : Below w.heap.size w W) => joint_new (hq.below hB) (hr.below hB) (by omega) (by omega) (by omega)
  have HJ3 := Lib.hid fun (W : World) (u v : Nat) (hu : IsRT W u (.node a p)) (hv : IsRT W v (.node q r)) => joint_new hu hv (by simp only [RT.text, List.length_append]; omega) (by simp only [RT.depth]; omega) (by simp only [RT.depth]; omega)
  have HC := Lib.hid fun (W : World) (hB : Below w.heap.size w W) => show (fun wx : World => wx.cell? ⟨y, 1, none⟩ = some (.pointer (some ⟨yl, 0, none⟩)) ∧ wx.cell? ⟨y, 2, none⟩ = some (.pointer (some ⟨yr, 0, none⟩)) ∧ wx.cell? ⟨yl, 1, none⟩ = some (.pointer (some ⟨yp, 0, none⟩)) ∧ wx.cell? ⟨yl, 2, none⟩ = some (.pointer (some ⟨yq, 0, none⟩)) ∧ wx.cell? ⟨x, 5, none⟩ = some (.int .i64 (da : Int)) ∧ wx.cell? ⟨y, 5, none⟩ = some (.int .i64 (db : Int)) ∧ wx.cell? ⟨yl, 5, none⟩ = some (.int .i64 (dl : Int)) ∧ wx.cell? ⟨yr, 5, none⟩ = some (.int .i64 (dr : Int))) W from
    ⟨(node_cells h1 hB).1, (node_cells h1 hB).2, (node_cells h2 hB).1, (node_cells h2 hB).2, eda ▸ top_depth ha hB, edb ▸ top_depth hy hB, edl ▸ top_depth hyl hB, edr ▸ top_depth hr hB⟩
  obtain ⟨f0, f1, f2, f3, f4, f5, f6, f7⟩ := HC.out w (Below.refl _ w)
  have HBa := Lib.hid (Below.refl w.heap.size w)
  clear h1 h2 ha hp hq hr hn ka kp kq kr hd hd2 hy hyl eda edb edr edl eda1 edb1
  go_enter Try.func52, Try.ntmps52
  go_wp2_with fail
  go_quiet (fail)
  have hb0 := HBa.out.trans ((below_drewN' w nq).mono HBa.out.size)
  generalize w.drewN nq = v0 at hb0 ⊢
  have HB0 := Lib.hid hb0
  clear f0 f1 f2 f3 f4 f5 f6 f7
  obtain ⟨f0, f1, f2, f3, f4, f5, f6, f7⟩ := HC.out v0 hb0
  clear hb0
  go_wp2_with fail
  go_quiet (fail)
  have hb1 := HB0.out.trans ((below_drewN' v0 nq).mono HB0.out.size)
  generalize v0.drewN nq = v1 at hb1 ⊢
  have HB1 := Lib.hid hb1
  clear f0 f1 f2 f3 f4 f5 f6 f7
  obtain ⟨f0, f1, f2, f3, f4, f5, f6, f7⟩ := HC.out v1 hb1
  clear hb1
  go_wp2_with fail
  go_quiet (fail)
  have hb2 := HB1.out.trans ((below_drewN' v1 nq).mono HB1.out.size)
  generalize v1.drewN nq = v2 at hb2 ⊢
  have HB2 := Lib.hid hb2
  clear f0 f1 f2 f3 f4 f5 f6 f7
  obtain ⟨f0, f1, f2, f3, f4, f5, f6, f7⟩ := HC.out v2 hb2
  clear hb2
  have HBD := Lib.hid HB2.out.drew
  go_wp2_with fail
  go_region_held3 (fun wx => wx.cell? ⟨y, 1, none⟩ = some (.pointer (some ⟨yl, 0, none⟩)) ∧ wx.cell? ⟨y, 2, none⟩ = some (.pointer (some ⟨yr, 0, none⟩)) ∧ wx.cell? ⟨yl, 1, none⟩ = some (.pointer (some ⟨yp, 0, none⟩)) ∧ wx.cell? ⟨yl, 2, none⟩ = some (.pointer (some ⟨yq, 0, none⟩)) ∧ wx.cell? ⟨x, 5, none⟩ = some (.int .i64 (da : Int)) ∧ wx.cell? ⟨y, 5, none⟩ = some (.int .i64 (db : Int)) ∧ wx.cell? ⟨yl, 5, none⟩ = some (.int .i64 (dl : Int)) ∧ wx.cell? ⟨yr, 5, none⟩ = some (.int .i64 (dr : Int)))
    ((first | assumption | exact ⟨f0, f1, f2, f3, f4, f5, f6, f7⟩ | exact HC.out _ HC1.out | exact HC.out _ HC2.out | exact HC.out _ HC3.out))
    (first
      | (go_at_call 53; (with_reducible refine (HJ1.out _ HBD.out).mono ?_); rintro e w1 ⟨u1, rfl, hu1, hb1⟩; have HC1 := Lib.hid (HBD.out.trans (hb1.mono HBD.out.size)); have HU1 := Lib.hid hu1; clear hu1 hb1)
      | (go_at_call 53; (with_reducible refine (HJ2.out _ HC1.out).mono ?_); rintro e w2 ⟨u2, rfl, hu2, hb2⟩; have HC2 := Lib.hid (HC1.out.trans (hb2.mono HC1.out.size)); have HU2 := Lib.hid hu2; have HUX := Lib.hid (HU1.out.below hb2); clear hu2 hb2)
      | (go_at_call 53; (with_reducible refine (HJ3.out _ _ _ HUX.out HU2.out).mono ?_); rintro e w3 ⟨u3, rfl, hu3, hb3⟩; have HC3 := Lib.hid (HC2.out.trans (hb3.mono HC2.out.size)); have HZ := Lib.hid hu3; clear hu3 hb3))
  go_wp2_with fail
  go_ret
  exact ⟨_, rfl, HZ.out, HC3.out⟩

set_option maxRecDepth 100000 in
set_option maxHeartbeats 2000000 in
theorem turned_b2 {a l r : RT} {w : World} {x y yl yr : Nat} (h1 : w.heap[y]? = some (.cells (nodeCells l r yl yr) 110 (0, 0))) (ha : IsRT w x a) (hl : IsRT w yl l) (hr : IsRT w yr r) (hn : a.text.length + l.text.length + r.text.length ≤ 65536) (ka : a.depth ≤ 65533) (kl : l.depth ≤ 65533) (kr : r.depth ≤ 65533) (hd : a.depth + 1 < (RT.node l r).depth) (hd2 : ¬ r.depth < l.depth) :
    Calls Try.prog 52 #[.pointer (some ⟨x, 0, none⟩), .pointer (some ⟨y, 0, none⟩)] w (Made (.node (.node a l) r) w) := by
  have hy : IsRT w y (.node l r) := ⟨yl, yr, h1, hl, hr⟩
  have hdb : (RT.node l r).depth ≤ 65535 := by simp only [RT.depth]; omega
  obtain ⟨da, eda⟩ : ∃ k, k = a.depth := ⟨_, rfl⟩
  obtain ⟨db, edb⟩ : ∃ k, k = (RT.node l r).depth := ⟨_, rfl⟩
  obtain ⟨dr, edr⟩ : ∃ k, k = r.depth := ⟨_, rfl⟩
  obtain ⟨dl, edl⟩ : ∃ k, k = l.depth := ⟨_, rfl⟩
  rw [← eda, ← edb] at hd
  rw [← edb] at hdb
  rw [← edr, ← edl] at hd2
  obtain ⟨db1, edb1⟩ : ∃ k, k = db + 1 := ⟨_, rfl⟩
  have qdb1 : IntKind.i64.wrap ((db : Int) + 1) = (db1 : Int) := by rw [show (db : Int) + 1 = (db1 : Int) by omega]; exact IntWalk.i64_in _ (by omega)
  obtain ⟨da1, eda1⟩ : ∃ k, k = da + 1 := ⟨_, rfl⟩
  have qda1 : IntKind.i64.wrap ((da : Int) + 1) = (da1 : Int) := by rw [show (da : Int) + 1 = (da1 : Int) by omega]; exact IntWalk.i64_in _ (by omega)
  clear hdb
  have g1 : decide (db1 < da) = false := by simp; omega
  have g1i : decide ((db1 : Int) < (da : Int)) = false := by simp; omega
  have g2 : decide (da1 < db) = true := by simp; omega
  have g2i : decide ((da1 : Int) < (db : Int)) = true := by simp; omega
  have g3 : decide (dr < dl) = false := by simp; omega
  have g3i : decide ((dr : Int) < (dl : Int)) = false := by simp; omega
  have HJ1 := Lib.hid fun (W : World) (hB : Below w.heap.size w W) => joint_new (ha.below hB) (hl.below hB) (by omega) (by omega) (by omega)
  have HJ2 := Lib.hid fun (W : World) (u : Nat) (hB : Below w.heap.size w W) (hu : IsRT W u (.node a l)) => joint_new hu (hr.below hB) (by simp only [RT.text, List.length_append]; omega) (by simp only [RT.depth]; omega) (by omega)
  have HC := Lib.hid fun (W : World) (hB : Below w.heap.size w W) => show (fun wx : World => wx.cell? ⟨y, 1, none⟩ = some (.pointer (some ⟨yl, 0, none⟩)) ∧ wx.cell? ⟨y, 2, none⟩ = some (.pointer (some ⟨yr, 0, none⟩)) ∧ wx.cell? ⟨x, 5, none⟩ = some (.int .i64 (da : Int)) ∧ wx.cell? ⟨y, 5, none⟩ = some (.int .i64 (db : Int)) ∧ wx.cell? ⟨yl, 5, none⟩ = some (.int .i64 (dl : Int)) ∧ wx.cell? ⟨yr, 5, none⟩ = some (.int .i64 (dr : Int))) W from
    ⟨(node_cells h1 hB).1, (node_cells h1 hB).2, eda ▸ top_depth ha hB, edb ▸ top_depth hy hB, edl ▸ top_depth hl hB, edr ▸ top_depth hr hB⟩
  obtain ⟨f0, f1, f2, f3, f4, f5⟩ := HC.out w (Below.refl _ w)
  have HBa := Lib.hid (Below.refl w.heap.size w)
  clear h1 ha hl hr hn ka kl kr hd hd2 hy eda edb edr edl eda1 edb1
  go_enter Try.func52, Try.ntmps52
  go_wp2_with fail
  go_quiet (fail)
  have hb0 := HBa.out.trans ((below_drewN' w nq).mono HBa.out.size)
  generalize w.drewN nq = v0 at hb0 ⊢
  have HB0 := Lib.hid hb0
  clear f0 f1 f2 f3 f4 f5
  obtain ⟨f0, f1, f2, f3, f4, f5⟩ := HC.out v0 hb0
  clear hb0
  go_wp2_with fail
  go_quiet (fail)
  have hb1 := HB0.out.trans ((below_drewN' v0 nq).mono HB0.out.size)
  generalize v0.drewN nq = v1 at hb1 ⊢
  have HB1 := Lib.hid hb1
  clear f0 f1 f2 f3 f4 f5
  obtain ⟨f0, f1, f2, f3, f4, f5⟩ := HC.out v1 hb1
  clear hb1
  go_wp2_with fail
  go_quiet (fail)
  have hb2 := HB1.out.trans ((below_drewN' v1 nq).mono HB1.out.size)
  generalize v1.drewN nq = v2 at hb2 ⊢
  have HB2 := Lib.hid hb2
  clear f0 f1 f2 f3 f4 f5
  obtain ⟨f0, f1, f2, f3, f4, f5⟩ := HC.out v2 hb2
  clear hb2
  go_wp2_with fail
  go_quiet (fail)
  have hb3 := HB2.out.trans ((below_drewN' v2 nq).mono HB2.out.size)
  generalize v2.drewN nq = v3 at hb3 ⊢
  have HB3 := Lib.hid hb3
  clear f0 f1 f2 f3 f4 f5
  obtain ⟨f0, f1, f2, f3, f4, f5⟩ := HC.out v3 hb3
  clear hb3
  have HBD := Lib.hid HB3.out.drew
  go_wp2_with fail
  go_region_held3 (fun wx => wx.cell? ⟨y, 1, none⟩ = some (.pointer (some ⟨yl, 0, none⟩)) ∧ wx.cell? ⟨y, 2, none⟩ = some (.pointer (some ⟨yr, 0, none⟩)) ∧ wx.cell? ⟨x, 5, none⟩ = some (.int .i64 (da : Int)) ∧ wx.cell? ⟨y, 5, none⟩ = some (.int .i64 (db : Int)) ∧ wx.cell? ⟨yl, 5, none⟩ = some (.int .i64 (dl : Int)) ∧ wx.cell? ⟨yr, 5, none⟩ = some (.int .i64 (dr : Int)))
    ((first | assumption | exact ⟨f0, f1, f2, f3, f4, f5⟩ | exact HC.out _ HC1.out | exact HC.out _ HC2.out | exact HC.out _ HC3.out))
    (first
      | (go_at_call 53; (with_reducible refine (HJ1.out _ HBD.out).mono ?_); rintro e w1 ⟨u1, rfl, hu1, hb1⟩; have HC1 := Lib.hid (HBD.out.trans (hb1.mono HBD.out.size)); have HU1 := Lib.hid hu1; clear hu1 hb1)
      | (go_at_call 53; (with_reducible refine (HJ2.out _ _ HC1.out HU1.out).mono ?_); rintro e w2 ⟨u2, rfl, hu2, hb2⟩; have HC2 := Lib.hid (HC1.out.trans (hb2.mono HC1.out.size)); have HZ := Lib.hid hu2; clear hu2 hb2))
  go_wp2_with fail
  go_ret
  exact ⟨_, rfl, HZ.out, HC2.out⟩

set_option maxRecDepth 100000 in
set_option maxHeartbeats 2000000 in
theorem turned_c {a b : RT} {w : World} {x y : Nat} (ha : IsRT w x a) (hb : IsRT w y b) (hn : a.text.length + b.text.length ≤ 65536) (ka : a.depth ≤ 65535) (kb : b.depth ≤ 65535) (hd : ¬ b.depth + 1 < a.depth) (hd2 : ¬ a.depth + 1 < b.depth) :
    Calls Try.prog 52 #[.pointer (some ⟨x, 0, none⟩), .pointer (some ⟨y, 0, none⟩)] w (Made (.node a b) w) := by
  obtain ⟨da, eda⟩ : ∃ k, k = a.depth := ⟨_, rfl⟩
  obtain ⟨db, edb⟩ : ∃ k, k = b.depth := ⟨_, rfl⟩
  rw [← eda, ← edb] at hd hd2
  obtain ⟨db1, edb1⟩ : ∃ k, k = db + 1 := ⟨_, rfl⟩
  have qdb1 : IntKind.i64.wrap ((db : Int) + 1) = (db1 : Int) := by rw [show (db : Int) + 1 = (db1 : Int) by omega]; exact IntWalk.i64_in _ (by omega)
  obtain ⟨da1, eda1⟩ : ∃ k, k = da + 1 := ⟨_, rfl⟩
  have qda1 : IntKind.i64.wrap ((da : Int) + 1) = (da1 : Int) := by rw [show (da : Int) + 1 = (da1 : Int) by omega]; exact IntWalk.i64_in _ (by omega)
  have g1 : decide (db1 < da) = false := by simp; omega
  have g1i : decide ((db1 : Int) < (da : Int)) = false := by simp; omega
  have g2 : decide (da1 < db) = false := by simp; omega
  have g2i : decide ((da1 : Int) < (db : Int)) = false := by simp; omega
  have HJ1 := Lib.hid fun (W : World) (hB : Below w.heap.size w W) => joint_new (ha.below hB) (hb.below hB) (by omega) (by omega) (by omega)
  have HC := Lib.hid fun (W : World) (hB : Below w.heap.size w W) => show (fun wx : World => wx.cell? ⟨x, 5, none⟩ = some (.int .i64 (da : Int)) ∧ wx.cell? ⟨y, 5, none⟩ = some (.int .i64 (db : Int))) W from
    ⟨eda ▸ top_depth ha hB, edb ▸ top_depth hb hB⟩
  obtain ⟨f0, f1⟩ := HC.out w (Below.refl _ w)
  have HBa := Lib.hid (Below.refl w.heap.size w)
  clear ha hb hn ka kb hd hd2 eda edb eda1 edb1
  go_enter Try.func52, Try.ntmps52
  go_wp2_with fail
  go_quiet (fail)
  have hb0 := HBa.out.trans ((below_drewN' w nq).mono HBa.out.size)
  generalize w.drewN nq = v0 at hb0 ⊢
  have HB0 := Lib.hid hb0
  clear f0 f1
  obtain ⟨f0, f1⟩ := HC.out v0 hb0
  clear hb0
  go_wp2_with fail
  go_quiet (fail)
  have hb1 := HB0.out.trans ((below_drewN' v0 nq).mono HB0.out.size)
  generalize v0.drewN nq = v1 at hb1 ⊢
  have HB1 := Lib.hid hb1
  clear f0 f1
  obtain ⟨f0, f1⟩ := HC.out v1 hb1
  clear hb1
  go_wp2_with fail
  go_quiet (fail)
  have hb2 := HB1.out.trans ((below_drewN' v1 nq).mono HB1.out.size)
  generalize v1.drewN nq = v2 at hb2 ⊢
  have HB2 := Lib.hid hb2
  clear f0 f1
  obtain ⟨f0, f1⟩ := HC.out v2 hb2
  clear hb2
  go_wp2_with fail
  go_quiet (fail)
  have hb3 := HB2.out.trans ((below_drewN' v2 nq).mono HB2.out.size)
  generalize v2.drewN nq = v3 at hb3 ⊢
  have HB3 := Lib.hid hb3
  clear f0 f1
  obtain ⟨f0, f1⟩ := HC.out v3 hb3
  clear hb3
  have HBD := Lib.hid HB3.out.drew
  go_wp2_with fail
  go_at_call 53
  (with_reducible refine (HJ1.out _ HB3.out).mono ?_)
  rintro e w1 ⟨u, rfl, hu, hb1⟩
  have HZ := Lib.hid hu
  have HC1 := Lib.hid (HB3.out.trans (hb1.mono HB3.out.size))
  clear hu hb1
  go_wp2_with fail
  go_ret
  exact ⟨_, rfl, HZ.out, HC1.out⟩

end Go.Proofs.Ytcjbhjbjkfgphaa

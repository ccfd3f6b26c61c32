/-
  The reference's Same of a command and itself. Condition: its place is equal to itself.
-/
import Derived.Test.YthlkmlphbepnpaaPg29
namespace Go.Proofs.Ythlkmlphbepnpaa
open Go.RowKit Go.Deep

set_option maxRecDepth 100000 in
set_option maxHeartbeats 4000000 in
theorem same_cmd (c : CM) (hq : ∀ W : World, (binOp .eql 28 (.complex .f64 c.re c.im) (.complex .f64 c.re c.im)).run Try.prog W = .ok (.bool true) W) (w : World) :
    Calls Try.prog 24 #[c.v, c.v] w fun e w' => e = .returned (.bool true) ∧ Below w.heap.size w w' := by
  have HN := Lib.hid same_node
  have HA := Lib.hid same_addr
  have HT := Lib.hid same_tpl
  have HQ := Lib.hid hq
  clear hq
  obtain ⟨w0, hw0⟩ : ∃ w0, w0 = (w.alloc (.cells c.cells.toArray 51)).alloc (.cells c.cells.toArray 51) := ⟨_, rfl⟩
  obtain ⟨b1, hb1⟩ : ∃ b1, b1 = w.heap.size := ⟨_, rfl⟩
  obtain ⟨b2, hb2⟩ : ∃ b2, b2 = b1 + 1 := ⟨_, rfl⟩
  have H0 := Lib.hid (show ∀ W, Below w0.heap.size w0 W → (∀ j v, c.cells[j]? = some v → W.cell? ⟨b1, j, none⟩ = some v) ∧ (∀ j v, c.cells[j]? = some v → W.cell? ⟨b2, j, none⟩ = some v) ∧ Below w.heap.size w W from fun W hb => by
    rw [hw0] at hb
    rw [hb2, hb1]
    have h1 := Below.obj hb (heap_alloc2_old w (.cells c.cells.toArray 51) (.cells c.cells.toArray 51)) (lt_of_some (heap_alloc2_old w _ _))
    have h2 := Below.obj hb (heap_alloc2_new w (.cells c.cells.toArray 51) (.cells c.cells.toArray 51)) (lt_of_some (heap_alloc2_new w _ _))
    refine ⟨fun j v hv => ?_, fun j v hv => ?_, ((bW w _).trans ((bW _ _).mono (by rw [World.size_alloc]; omega))).trans (hb.mono (by rw [World.size_alloc, World.size_alloc]; omega))⟩
    · rw [obj_cell h1]
      simpa using hv
    · rw [obj_cell h2]
      simpa using hv)
  have HR := Lib.hid (show ∀ W, Below w0.heap.size w0 W → W.rangeAt b1 27 nodeZ ∧ W.rangeAt b2 27 nodeZ ∧ W.rangeAt b1 2 addrZ ∧ W.rangeAt b2 2 addrZ ∧ W.rangeAt b1 13 addrZ ∧ W.rangeAt b2 13 addrZ from fun W hW => by
    obtain ⟨h1, h2, _⟩ := H0.out W hW
    have n : ∀ j v, nodeZ[j]? = some v → c.cells[27 + j]? = some v := fun j v hv => by
      have hj : j < 9 := (List.getElem?_eq_some_iff.1 hv).1
      rcases (show j = 0 ∨ j = 1 ∨ j = 2 ∨ j = 3 ∨ j = 4 ∨ j = 5 ∨ j = 6 ∨ j = 7 ∨ j = 8 by omega) with rfl | rfl | rfl | rfl | rfl | rfl | rfl | rfl | rfl <;> exact hv
    have a : ∀ j v, addrZ[j]? = some v → c.cells[2 + j]? = some v ∧ c.cells[13 + j]? = some v := fun j v hv => by
      have hj : j < 11 := (List.getElem?_eq_some_iff.1 hv).1
      rcases (show j = 0 ∨ j = 1 ∨ j = 2 ∨ j = 3 ∨ j = 4 ∨ j = 5 ∨ j = 6 ∨ j = 7 ∨ j = 8 ∨ j = 9 ∨ j = 10 by omega) with rfl | rfl | rfl | rfl | rfl | rfl | rfl | rfl | rfl | rfl | rfl <;> exact ⟨hv, hv⟩
    exact ⟨fun j v hv => h1 _ v (n j v hv), fun j v hv => h2 _ v (n j v hv), fun j v hv => h1 _ v (a j v hv).1, fun j v hv => h2 _ v (a j v hv).1, fun j v hv => h1 _ v (a j v hv).2, fun j v hv => h2 _ v (a j v hv).2⟩)
  have HC := Lib.hid (show ∀ W, Below w0.heap.size w0 W → W.cell? ⟨b1, 0, none⟩ = some (.complex .f64 c.re c.im) ∧ W.cell? ⟨b1, 1, none⟩ = some (.int .u8 c.name) ∧ W.cell? ⟨b1, 24, none⟩ = some (.bool false) ∧ W.cell? ⟨b1, 25, none⟩ = some (.string c.text) ∧ W.cell? ⟨b1, 26, none⟩ = some (.string ⟨#[]⟩) ∧ W.cell? ⟨b1, 36, none⟩ = some (.bool false) ∧ W.cell? ⟨b1, 37, none⟩ = some (.slice none 0 0) ∧ W.cell? ⟨b1, 38, none⟩ = some (.bool false) ∧ W.cell? ⟨b1, 39, none⟩ = some (.bool false) ∧ W.cell? ⟨b1, 40, none⟩ = some (.int .i64 0) ∧ W.cell? ⟨b1, 41, none⟩ = some (.string c.file) ∧ W.cell? ⟨b2, 0, none⟩ = some (.complex .f64 c.re c.im) ∧ W.cell? ⟨b2, 1, none⟩ = some (.int .u8 c.name) ∧ W.cell? ⟨b2, 24, none⟩ = some (.bool false) ∧ W.cell? ⟨b2, 25, none⟩ = some (.string c.text) ∧ W.cell? ⟨b2, 26, none⟩ = some (.string ⟨#[]⟩) ∧ W.cell? ⟨b2, 36, none⟩ = some (.bool false) ∧ W.cell? ⟨b2, 37, none⟩ = some (.slice none 0 0) ∧ W.cell? ⟨b2, 38, none⟩ = some (.bool false) ∧ W.cell? ⟨b2, 39, none⟩ = some (.bool false) ∧ W.cell? ⟨b2, 40, none⟩ = some (.int .i64 0) ∧ W.cell? ⟨b2, 41, none⟩ = some (.string c.file) ∧ Below w.heap.size w W from fun W hW => by
    obtain ⟨h1, h2, h3⟩ := H0.out W hW
    exact ⟨h1 0 _ rfl, h1 1 _ rfl, h1 24 _ rfl, h1 25 _ rfl, h1 26 _ rfl, h1 36 _ rfl, h1 37 _ rfl, h1 38 _ rfl, h1 39 _ rfl, h1 40 _ rfl, h1 41 _ rfl, h2 0 _ rfl, h2 1 _ rfl, h2 24 _ rfl, h2 25 _ rfl, h2 26 _ rfl, h2 36 _ rfl, h2 37 _ rfl, h2 38 _ rfl, h2 39 _ rfl, h2 40 _ rfl, h2 41 _ rfl, h3⟩)
  go_enter Try.func24, Try.ntmps24
  go_upto_region 1 with (first | (refine wpList_boxTo rfl 51 (.tmp 0) rfl (some 2) rfl w.heap.size rfl c.cells.toArray rfl ?_) | (refine wpList_boxTo rfl 51 (.tmp 1) rfl (some 3) rfl (w.heap.size + 1) (by rw [World.size_alloc]) c.cells.toArray rfl ?_))
  try simp only [Act.put, World.size_alloc]
  try simp only [CM.v]
  try simp only [← hw0]
  try simp only [← hb1]
  try simp only [← hb2]
  clear hw0 hb1 hb2 H0
  obtain ⟨k0, k1, k2, k3, k4, k5, k6, k7, k8, k9, k10, k11, k12, k13, k14, k15, k16, k17, k18, k19, k20, k21, hbw⟩ := HC.out w0 (Below.refl _ _)
  have HR0 := Lib.hid (HR.out w0 (Below.refl _ _))
  clear hbw
  go_wp2_with (first | (refine wpList_load_mid rfl 46 (.tmp 9) rfl b1 27 rfl nodeZ _ HR0.out.1 Try.underlying46 rfl (by kernel_rfl) ?_) | (refine wpList_load_mid rfl 46 (.tmp 11) rfl b2 27 rfl nodeZ _ HR0.out.2.1 Try.underlying46 rfl (by kernel_rfl) ?_))
  go_at_call 32
  with_reducible refine (HN.out _).mono ?_
  rintro e w1 ⟨rfl, hbb⟩
  have HB1 := Lib.hid hbb
  clear hbb k0 k1 k2 k3 k4 k5 k6 k7 k8 k9 k10 k11 k12 k13 k14 k15 k16 k17 k18 k19 k20 k21
  obtain ⟨k0, k1, k2, k3, k4, k5, k6, k7, k8, k9, k10, k11, k12, k13, k14, k15, k16, k17, k18, k19, k20, k21, hbw⟩ := HC.out w1 HB1.out
  have HR1 := Lib.hid (HR.out w1 HB1.out)
  clear hbw HR0
  go_wp2_with fail
  go_at_call 33
  with_reducible refine (HT.out _).mono ?_
  rintro e w2 ⟨rfl, hw2⟩
  subst w2
  go_wp2_with (first | (refine wpList_load_mid rfl 48 (.tmp 19) rfl b1 2 rfl addrZ _ HR1.out.2.2.1 Try.underlying48 rfl (by kernel_rfl) ?_) | (refine wpList_load_mid rfl 48 (.tmp 21) rfl b2 2 rfl addrZ _ HR1.out.2.2.2.1 Try.underlying48 rfl (by kernel_rfl) ?_))
  go_at_call 34
  with_reducible refine (HA.out _).mono ?_
  rintro e w3 ⟨rfl, hbb⟩
  have HB3 := Lib.hid (HB1.out.trans (hbb.mono HB1.out.size))
  clear hbb k0 k1 k2 k3 k4 k5 k6 k7 k8 k9 k10 k11 k12 k13 k14 k15 k16 k17 k18 k19 k20 k21
  obtain ⟨k0, k1, k2, k3, k4, k5, k6, k7, k8, k9, k10, k11, k12, k13, k14, k15, k16, k17, k18, k19, k20, k21, hbw⟩ := HC.out w3 HB3.out
  have HR3 := Lib.hid (HR.out w3 HB3.out)
  clear hbw HR1
  go_wp2_with (first | (refine wpList_load_mid rfl 48 (.tmp 24) rfl b1 13 rfl addrZ _ HR3.out.2.2.2.2.1 Try.underlying48 rfl (by kernel_rfl) ?_) | (refine wpList_load_mid rfl 48 (.tmp 26) rfl b2 13 rfl addrZ _ HR3.out.2.2.2.2.2 Try.underlying48 rfl (by kernel_rfl) ?_))
  go_at_call 34
  with_reducible refine (HA.out _).mono ?_
  rintro e w4 ⟨rfl, hbb⟩
  have HB4 := Lib.hid (HB3.out.trans (hbb.mono HB3.out.size))
  clear hbb k0 k1 k2 k3 k4 k5 k6 k7 k8 k9 k10 k11 k12 k13 k14 k15 k16 k17 k18 k19 k20 k21
  obtain ⟨k0, k1, k2, k3, k4, k5, k6, k7, k8, k9, k10, k11, k12, k13, k14, k15, k16, k17, k18, k19, k20, k21, hbw⟩ := HC.out w4 HB4.out
  have HBW := Lib.hid hbw
  clear hbw HR3
  have q := HQ.out
  go_wp2_with fail
  go_ret
  exact ⟨rfl, HBW.out⟩
end Go.Proofs.Ythlkmlphbepnpaa

/-
  The reference's Same of two addresses that ask for nothing. No condition.
-/
import Derived.Test.YthlkmlphbepnpaaPg28
namespace Go.Proofs.Ythlkmlphbepnpaa
open Go.RowKit Go.Deep

def addrZ : List Value := [.int .i64 0, .int .i64 0, .int .i64 0, .int .u64 0, .int .u64 0, .int .u64 0, .int .u64 0, .int .i64 0, .int .i64 0, .int .i64 0, .slice none 0 0]
set_option maxRecDepth 100000 in
set_option maxHeartbeats 2000000 in
theorem same_addr (w : World) : Calls Try.prog 34 #[.agg addrZ.toArray, .agg addrZ.toArray] w fun e w' => e = .returned (.bool true) ∧ Below w.heap.size w w' := by
  have HN := Lib.hid same_node
  have H0 := Lib.hid (show ∀ W, Below ((w.alloc (.cells addrZ.toArray 48)).alloc (.cells addrZ.toArray 48)).heap.size ((w.alloc (.cells addrZ.toArray 48)).alloc (.cells addrZ.toArray 48)) W → Below w.heap.size w W ∧ (∀ j v, addrZ[j]? = some v → W.cell? ⟨w.heap.size, j, none⟩ = some v) ∧ (∀ j v, addrZ[j]? = some v → W.cell? ⟨w.heap.size + 1, j, none⟩ = some v) from fun W hb => by
    have h1 := Below.obj hb (heap_alloc2_old w (.cells addrZ.toArray 48) (.cells addrZ.toArray 48)) (lt_of_some (heap_alloc2_old w _ _))
    have h2 := Below.obj hb (heap_alloc2_new w (.cells addrZ.toArray 48) (.cells addrZ.toArray 48)) (lt_of_some (heap_alloc2_new w _ _))
    refine ⟨((bW w _).trans ((bW _ _).mono (by rw [World.size_alloc]; omega))).trans (hb.mono (by rw [World.size_alloc, World.size_alloc]; omega)), fun j v hv => ?_, fun j v hv => ?_⟩
    · rw [obj_cell h1]
      simpa using hv
    · rw [obj_cell h2]
      simpa using hv)
  go_enter Try.func34, Try.ntmps34
  go_upto_region 1 with (first | (refine wpList_boxTo rfl 48 (.tmp 0) rfl (some 2) rfl w.heap.size rfl addrZ.toArray rfl ?_) | (refine wpList_boxTo rfl 48 (.tmp 1) rfl (some 3) rfl (w.heap.size + 1) (by rw [World.size_alloc]) addrZ.toArray rfl ?_))
  try simp only [Act.put, World.size_alloc]
  obtain ⟨w0, hw0⟩ : ∃ w0, w0 = (w.alloc (.cells addrZ.toArray 48)).alloc (.cells addrZ.toArray 48) := ⟨_, rfl⟩
  rw [← hw0] at H0 ⊢
  clear hw0
  have HC0 := Lib.hid (H0.out w0 (Below.refl _ _))
  have HL1 := Lib.hid (show w0.rangeAt w.heap.size 2 nodeZ from fun j v hv => HC0.out.2.1 (2 + j) v (by rw [Nat.add_comm]; exact hv))
  have HL2 := Lib.hid (show w0.rangeAt (w.heap.size + 1) 2 nodeZ from fun j v hv => HC0.out.2.2 (2 + j) v (by rw [Nat.add_comm]; exact hv))
  obtain ⟨b1, hb1⟩ : ∃ b1, b1 = w.heap.size := ⟨_, rfl⟩
  obtain ⟨b2, hb2⟩ : ∃ b2, b2 = b1 + 1 := ⟨_, rfl⟩
  rw [← hb1, ← hb2] at HL2
  rw [← hb1] at HL1
  have HF := Lib.hid (show ∀ W, Below w0.heap.size w0 W → W.cell? ⟨b1, 0, none⟩ = some (.int .i64 0) ∧ W.cell? ⟨b1, 1, none⟩ = some (.int .i64 0) ∧ W.cell? ⟨b2, 0, none⟩ = some (.int .i64 0) ∧ W.cell? ⟨b2, 1, none⟩ = some (.int .i64 0) ∧ Below w.heap.size w W from fun W hW => by
    rw [hb2, hb1]
    obtain ⟨h1, h2, h3⟩ := H0.out W hW
    exact ⟨h2 0 _ rfl, h2 1 _ rfl, h3 0 _ rfl, h3 1 _ rfl, h1⟩)
  clear H0 HC0
  try simp only [← hb1]
  try simp only [← hb2]
  clear hb1 hb2
  go_wp2_with (first | (refine wpList_load_mid rfl 46 (.tmp 6) rfl b1 2 rfl nodeZ _ HL1.out Try.underlying46 rfl (by kernel_rfl) ?_) | (refine wpList_load_mid rfl 46 (.tmp 8) rfl b2 2 rfl nodeZ _ HL2.out Try.underlying46 rfl (by kernel_rfl) ?_))
  go_at_call 32
  with_reducible refine (HN.out _).mono ?_
  rintro e w1 ⟨rfl, hb⟩
  obtain ⟨k1, k2, k3, k4, hbw⟩ := HF.out w1 hb
  have HBW := Lib.hid hbw
  clear hb hbw
  go_wp2_with fail
  go_ret
  exact ⟨rfl, HBW.out⟩
end Go.Proofs.Ythlkmlphbepnpaa

/-
  The document's Same of two rows of one list of instructions. Condition: each place is equal to itself.
-/
import Derived.Test.YthlkmlphbepnpaaPg31
namespace Go.Proofs.Ythlkmlphbepnpaa
open Go.RowKit Go.Deep

theorem im_cm {W : World} {b o : Nat} {c : CM} {j : Int} (h : W.rangeAt b o (IM.cells (c, j))) : W.rangeAt b o c.cells := fun k v hv => h k v (by
  unfold IM.cells
  rw [List.getElem?_append_left (List.getElem?_eq_some_iff.1 hv).1]
  exact hv)
set_option maxRecDepth 100000 in
set_option maxHeartbeats 4000000 in
theorem same_ins {l : List IM} {ca cb : Nat} {A B : Option Addr} {w : World} (ha : RawAt w A (imV l)) (hb : RawAt w B (imV l)) (hl : l.length ≤ 1048576) (hq : ∀ x ∈ l, EqP x.1) :
    Calls Try.prog 12 #[.slice A l.length ca, .slice B l.length cb] w (SAns w) := by
  unfold SAns
  have HA := Lib.hid ha
  have HB := Lib.hid hb
  have HL := Lib.hid hl
  have HQ := Lib.hid hq
  have HB0 := Lib.hid (Below.refl w.heap.size w)
  clear ha hb hl hq
  go_enter Try.func12, Try.ntmps12
  go_wp2_with fail
  go_loopw [5, 6] (fun v _ wz => ∃ m : Nat, v = .int .i64 (m : Int) ∧ Hid (m ≤ l.length ∧ Below w.heap.size w wz)) (fun v _ _ => l.length + 1 - (intOf v).toNat)
  case atStart => exact ⟨0, rfl, Lib.hid ⟨Nat.zero_le _, HB0.out⟩⟩
  case round =>
    obtain ⟨m, rfl, HJ⟩ := hrel
    have hle := HJ.out.1
    have hl := HL.out
    by_cases hm : m < l.length
    case neg =>
      have hd : decide ((m : Int) < (l.length : Int)) = false := decide_eq_false (by omega)
      have hdn : decide (m < l.length) = false := decide_eq_false hm
      have hll : (l.length : Int) ≤ (m : Int) := by omega
      clear hle hm hl
      go_wp2_with fail
      go_ret
      exact ⟨rfl, HJ.out.2⟩
    obtain ⟨⟨c, jj⟩, hc⟩ : ∃ c, l[m]? = some c := ⟨l[m], by simp [hm]⟩
    have HRA := Lib.hid (HA.out.below HJ.out.2)
    have HRB := Lib.hid (HB.out.below HJ.out.2)
    obtain ⟨g, o, rfl, hca⟩ := raw_elem IM.len (by omega) HRA.out hc
    obtain ⟨g', o', rfl, hcb⟩ := raw_elem IM.len (by omega) HRB.out hc
    have HSC := Lib.hid (same_cmd c (HQ.out (c, jj) (List.mem_of_getElem? hc)))
    have hli : (m : Int) < (l.length : Int) := by omega
    have hd : decide ((m : Int) < (l.length : Int)) = true := decide_eq_true hli
    have hdn : decide (m < l.length) = true := decide_eq_true hm
    have hadd : IntKind.i64.wrap ((m : Int) + 1) = ((m + 1 : Nat) : Int) := by rw [IntWalk.i64_in _ (by omega)]; omega
    obtain ⟨m1, hm1⟩ : ∃ m1, m1 = m + 1 := ⟨_, rfl⟩
    rw [← hm1] at hadd
    have HM := Lib.hid (And.intro hm1 hm)
    have HCA := Lib.hid hca
    have HCB := Lib.hid hcb
    clear hle hm1 hc hca hcb hm hl
    go_upto_region 6 with fail
    have HS := Lib.hid (show ∀ V, Below wr.heap.size wr V → V.rangeAt g (o + m * 43) (IM.cells (c, jj)) ∧ V.rangeAt g' (o' + m * 43) (IM.cells (c, jj)) from fun V hV =>
      ⟨fun j v hv => by
        rw [World.cell?_of_block (hV.block g (World.block_lt_of_cell? _ _ (HCA.out j v hv)))]
        exact HCA.out j v hv, fun j v hv => by
        rw [World.cell?_of_block (hV.block g' (World.block_lt_of_cell? _ _ (HCB.out j v hv)))]
        exact HCB.out j v hv⟩)
    have HV0 := Lib.hid (show Below wr.heap.size wr wr.drew from (Below.refl wr.heap.size wr).drew)
    refine wp_region_heads (fun wx => wx.rangeAt g (o + m * 43) (IM.cells (c, jj)) ∧ wx.rangeAt g' (o' + m * 43) (IM.cells (c, jj))) [0, 1, 2, 3, 4, 5, 6, 7, 8, 9] [10, 11] [11] (by kernel_rfl) (by kernel_rfl) (by kernel_rfl) (fun c a d v wq h => hq_body (P := Try.prog) (fn := Try.f12) (R := fun e w' => e = .returned (.bool true) ∧ Below w.heap.size w w') c a d v wq h) (by kernel_rfl) (HS.out _ HV0.out) ?_
    refine heads_step (v := ?_) rfl (by rfl) (fun wx hSw => ?_) ?_
    rotate_left
    · obtain ⟨u0, u1⟩ := hSw
      go_simp
      try with_reducible rfl
    simp only [Act.put]
    refine heads_step (v := ?_) rfl (by rfl) (fun wx hSw => ?_) ?_
    rotate_left
    · obtain ⟨u0, u1⟩ := hSw
      go_simp
      try with_reducible rfl
    simp only [Act.put]
    refine heads_step (v := ?_) rfl (by rfl) (fun wx hSw => ?_) ?_
    rotate_left
    · obtain ⟨u0, u1⟩ := hSw
      go_simp
      try with_reducible rfl
    simp only [Act.put]
    refine heads_step (v := ?_) rfl (by rfl) (fun wx hSw => ?_) ?_
    rotate_left
    · obtain ⟨u0, u1⟩ := hSw
      go_simp
      try with_reducible rfl
    simp only [Act.put]
    refine heads_step (v := c.v) rfl (by rfl) (fun wx hSw => exec_load_mid 51 (.tmp 21) rfl g (o + m * 43) rfl c.cells _ (im_cm hSw.1) Try.underlying51 rfl size_cmd) ?_
    simp only [Act.put]
    refine heads_step (v := ?_) rfl (by rfl) (fun wx hSw => ?_) ?_
    rotate_left
    · obtain ⟨u0, u1⟩ := hSw
      go_simp
      try with_reducible rfl
    simp only [Act.put, List.setIfInBounds_toArray, List.set_cons_succ, List.set_cons_zero, List.getElem_toArray, List.getElem_cons_succ, List.getElem_cons_zero]
    refine heads_step (v := ?_) rfl (by rfl) (fun wx hSw => ?_) ?_
    rotate_left
    · obtain ⟨u0, u1⟩ := hSw
      go_simp
      try with_reducible rfl
    simp only [Act.put, List.setIfInBounds_toArray, List.set_cons_succ, List.set_cons_zero, List.getElem_toArray, List.getElem_cons_succ, List.getElem_cons_zero]
    refine heads_step (v := ?_) rfl (by rfl) (fun wx hSw => ?_) ?_
    rotate_left
    · obtain ⟨u0, u1⟩ := hSw
      go_simp
      try with_reducible rfl
    simp only [Act.put, List.setIfInBounds_toArray, List.set_cons_succ, List.set_cons_zero, List.getElem_toArray, List.getElem_cons_succ, List.getElem_cons_zero]
    refine heads_step (v := ?_) rfl (by rfl) (fun wx hSw => ?_) ?_
    rotate_left
    · obtain ⟨u0, u1⟩ := hSw
      go_simp
      try with_reducible rfl
    simp only [Act.put, List.setIfInBounds_toArray, List.set_cons_succ, List.set_cons_zero, List.getElem_toArray, List.getElem_cons_succ, List.getElem_cons_zero]
    refine heads_step (v := c.v) rfl (by rfl) (fun wx hSw => exec_load_mid 51 (.tmp 26) rfl g' (o' + m * 43) rfl c.cells _ (im_cm hSw.2) Try.underlying51 rfl size_cmd) ?_
    simp only [Act.put, List.setIfInBounds_toArray, List.set_cons_succ, List.set_cons_zero, List.getElem_toArray, List.getElem_cons_succ, List.getElem_cons_zero]
    refine heads_end ?_
    refine tail_step rfl (fun K hK => ?_)
    go_simp
    refine (HSC.out _).mono ?_
    rintro e w5 ⟨rfl, hb5⟩
    have HW5 := Lib.hid (HV0.out.trans (hb5.mono HV0.out.size))
    refine hK _ _ ⟨fun _ => HS.out _ HW5.out, ?_⟩
    clear hb5 hK K
    try simp only [Act.put, List.setIfInBounds_toArray, List.set_cons_zero, List.set_cons_succ]
    refine tail_step rfl (fun K hK => ?_)
    go_simp
    refine hK _ _ ⟨fun h => by simp at h, ?_⟩
    clear hK K
    try simp only [Act.put, List.setIfInBounds_toArray, List.set_cons_zero, List.set_cons_succ]
    refine tail_end ?_
    have HN := Lib.hid (show m1 ≤ l.length ∧ Below w.heap.size w w5 from ⟨by have := HM.out; omega, HJ.out.2.trans (HW5.out.mono HJ.out.2.size)⟩)
    obtain ⟨z0, z1⟩ := HS.out _ HW5.out
    have k1 := z0 42 (.int .i64 jj) rfl
    have k2 := z1 42 (.int .i64 jj) rfl
    clear hd hdn z0 z1
    go_wp2_with fail
    go_quiet (fail)
    go_wp2_with fail
    go_roundw
    case rel => exact ⟨m1, rfl, Lib.hid ⟨HN.out.1, ⟨HN.out.2.os, HN.out.2.tape, HN.out.2.output, HN.out.2.size, HN.out.2.block⟩⟩⟩
    case measure => have := HM.out; simp [intOf] <;> omega
end Go.Proofs.Ythlkmlphbepnpaa

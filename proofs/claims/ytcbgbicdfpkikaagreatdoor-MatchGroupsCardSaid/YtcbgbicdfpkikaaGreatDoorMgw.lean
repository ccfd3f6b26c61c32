/-
  MatchGroups' walk. Conditions: the world holds what strings.Index asks, and the table of de Bruijn's numbers.
-/
import Derived.Test.YtcbgbicdfpkikaaGreatDoorMwit
import Derived.Deep.Cut
import Derived.Deep.CutRange
import Derived.BigGuard
namespace Go.Proofs.YtcbgbicdfpkikaaGreatDoor
open Go.RowKit Go.Deep Go.Sort

theorem kind_is {S : Nat → Prop} {w : World} {t : PN} {y : NV} (h : IsP S w t y) : y.kind = t.kind := by
  cases h
  rfl
set_option maxRecDepth 100000 in
set_option maxHeartbeats 8000000 in
theorem mgroups_any (p : ByteArray) (ext : Bool) (s : ByteArray) (w : World) (hM : MaxAt w) (hD : DebAt w) : Calls Tryz.prog 4 #[.string p, .bool ext, .string s] w (TrueC w) := by
  have HA := Lib.hid fun (W : World) (hW : Below w.heap.size w W) => alive10_is W (hM.below hW) (hD.below hW)
  have HP := Lib.hid (parse_v p ext w hM)
  have HD := Lib.hid hD
  have H0 := Lib.hid (St.start w)
  clear hM hD
  go_enter Tryz.func4, Tryz.ntmps4
  go_wp2_with fail
  go_at_call 18
  with_reducible refine HP.out.mono ?_
  rintro e w1 ⟨y, c, rfl, hb1, hy, hz⟩
  obtain ⟨W1, hW1⟩ : ∃ W1, W1 = w1.alloc (.cells #[.int .i64 y.kind, .int .u64 (y.set 0), .int .u64 (y.set 1), .int .u64 (y.set 2), .int .u64 (y.set 3), .int .i64 y.lo, .int .i64 y.hi, .int .i64 y.num, .slice y.A y.n y.c] 28) := ⟨_, rfl⟩
  obtain ⟨b7, hb7⟩ : ∃ b, b = w1.heap.size := ⟨_, rfl⟩
  have H1 := Lib.hid (show St w W1 [(b7, #[.int .i64 y.kind, .int .u64 (y.set 0), .int .u64 (y.set 1), .int .u64 (y.set 2), .int .u64 (y.set 3), .int .i64 y.lo, .int .i64 y.hi, .int .i64 y.num, .slice y.A y.n y.c], 28)] [] from by rw [hW1, hb7]; exact (H0.out.next hb1).box _ _)
  have HY := Lib.hid (And.intro (fun t ht => (⟨(hy t ht).1, (hy t ht).2.stays (by rw [hW1]; exact bW w1 _)⟩ : c = 0 ∧ IsP (fun _ => False) W1 t y)) hz)
  rw [NV.v_eq]
  clear hy hz hb1
  go_upto_region 2 with fail
  rw [← hW1, ← hb7]
  clear hW1 hb7
  by_cases h1 : 20 < p.size
  · have g1 : decide ((20 : Int) < (p.size : Int)) = true := decide_eq_true (by omega)
    have g1n : decide (20 < p.size) = true := decide_eq_true h1
    clear h1
    go_wp2_with fail
    go_at_call 15
    with_reducible refine (HA.out _ H1.out.bel).mono ?_
    rintro e wz ⟨rfl, hb⟩
    have HBB := Lib.hid (H1.out.bel.trans (hb.mono H1.out.bel.size))
    clear hb
    go_wp2_with fail
    go_ret
    exact ⟨rfl, HBB.out⟩
  have g1 : decide ((20 : Int) < (p.size : Int)) = false := decide_eq_false (by omega)
  have g1n : decide (20 < p.size) = false := decide_eq_false h1
  clear h1
  cases hR : parseP bkOf ext p.data.toList with
  | none =>
    have hc := HY.out.2 hR
    subst hc
    clear hR
    go_wp2_with fail
    go_at_call 15
    with_reducible refine (HA.out _ H1.out.bel).mono ?_
    rintro e wz ⟨rfl, hb⟩
    have HBB := Lib.hid (H1.out.bel.trans (hb.mono H1.out.bel.size))
    clear hb
    go_wp2_with fail
    go_ret
    exact ⟨rfl, HBB.out⟩
  | some t =>
  have hc := (HY.out.1 t hR).1
  subst hc
  have HR := Lib.hid (And.intro hR (parse_nods hR))
  have H2 := Lib.hid (show St w W1 [(b7, #[.int .i64 y.kind, .int .u64 (y.set 0), .int .u64 (y.set 1), .int .u64 (y.set 2), .int .u64 (y.set 3), .int .i64 y.lo, .int .i64 y.hi, .int .i64 y.num, .slice y.A y.n y.c], 28)] [(t, y)] from H1.out.tree (HY.out.1 t hR).2)
  clear hR
  by_cases h2 : 12 < s.size
  · have g2 : decide ((12 : Int) < (s.size : Int)) = true := decide_eq_true (by omega)
    have g2n : decide (12 < s.size) = true := decide_eq_true h2
    clear h2
    go_wp2_with fail
    go_at_call 15
    with_reducible refine (HA.out _ H2.out.bel).mono ?_
    rintro e wz ⟨rfl, hb⟩
    have HBB := Lib.hid (H2.out.bel.trans (hb.mono H2.out.bel.size))
    clear hb
    go_wp2_with fail
    go_ret
    exact ⟨rfl, HBB.out⟩
  have g2 : decide ((12 : Int) < (s.size : Int)) = false := decide_eq_false (by omega)
  have g2n : decide (12 < s.size) = false := decide_eq_false h2
  have HT := Lib.hid (show s.data.toList.length ≤ 1024 by show s.size ≤ 1024; omega)
  clear h2
  go_upto_region 4 with fail
  clear g1 g1n g2 g2n
  obtain ⟨e0, e1, e2, e3, e4, e5, e6, e7, e8⟩ := node_box (H2.out.ob 0 rfl)
  have hle := lt_of_some (H2.out.ob 0 rfl)
  have hfi := find_is (s := s) true 0 (H2.out.tr 0 rfl) (HD.out.below H2.out.bel) (by have := HR.out.2; omega)
  rw [NV.v_eq] at hfi
  have HF := Lib.hid hfi
  clear hfi
  go_wp2_with fail
  go_at_call 16
  with_reducible refine HF.out.mono ?_
  rintro e w2 ⟨sp, is, rfl, hfr, hbf⟩
  rename_i hK
  refine hK _ _ ?_
  clear hK
  iterate 4
    refine wpList_plain rfl (fun K2 hK2 => ?_)
    go_simp
    refine hK2 _ _ ?_
    clear hK2 K2
    try simp only [Act.put, List.setIfInBounds_toArray, List.set_cons_zero, List.set_cons_succ]
  refine wpList_mat_store rfl (.tmp 9) (.tmp 37) rfl sp rfl rfl ?_
  clear e0 e1 e2 e3 e4 e5 e6 e7 e8 hle
  obtain ⟨W2, hW2⟩ : ∃ W2, W2 = w2.alloc (.cells (spC sp) 34) := ⟨_, rfl⟩
  obtain ⟨b9, hb9⟩ : ∃ b, b = w2.heap.size := ⟨_, rfl⟩
  have H3 := Lib.hid (show St w W2 [(b9, spC sp, 34), (b7, #[.int .i64 y.kind, .int .u64 (y.set 0), .int .u64 (y.set 1), .int .u64 (y.set 2), .int .u64 (y.set 3), .int .i64 y.lo, .int .i64 y.hi, .int .i64 y.num, .slice y.A y.n y.c], 28)] [(t, y)] from by rw [hW2, hb9]; exact (H2.out.next hbf).box _ _)
  have HF := Lib.hid hfr
  clear hfr hbf
  go_upto_region 5 with fail
  rw [← hW2, ← hb9]
  clear hW2 hb9
  cases is with
  | false =>
    have hs : sp = spI 0 := by
      rcases FindR.span (fr := 0) HF.out (Nat.zero_le _) HT.out with ⟨_, h, _⟩ | ⟨h, _⟩
      · exact h
      · cases h
    subst hs
    go_wp2_with fail
    go_at_call 15
    with_reducible refine (HA.out _ H3.out.bel).mono ?_
    rintro e wz ⟨rfl, hb⟩
    have H4 := Lib.hid (H3.out.next hb)
    have hme := mat_zero
    clear hb
    rename_i hK
    refine hK _ _ ?_
    clear hK
    iterate 1
      refine wpList_step fun K2 hK2 => ?_
      rw [if_pos (by kernel_rfl)]
      go_simp
      refine hK2 _ _ ?_
      clear hK2 K2
      try simp only [Act.put, List.setIfInBounds_toArray, List.set_cons_zero, List.set_cons_succ]
    refine wpList_step fun K2 hK2 => ?_
    rw [if_pos (by kernel_rfl)]
    refine wp_load_row 34 (.tmp 9) rfl b9 rfl 34 (spC (spI 0)) (0, 0) _ (H4.out.ob 0 rfl) Tryz.underlying34 rfl (by kernel_rfl) ?_
    refine hK2 _ _ ?_
    clear hK2 K2
    try simp only [Act.put, List.setIfInBounds_toArray, List.set_cons_zero, List.set_cons_succ]
    have HBB := Lib.hid H4.out.bel
    go_wp2_with fail
    go_ret
    exact ⟨rfl, HBB.out⟩
  | true =>
  obtain ⟨_, _, gg, hgg, hrr⟩ := right_of HR.out.1
  have hgrp := right_grpd t 0 gg hrr
  obtain ⟨hgf1, hgf2, hgf3, hgf4⟩ := groups_find HR.out.1 HT.out HF.out
  obtain ⟨z1, z2, hz⟩ : ∃ a b, sp 0 = (a, b) := ⟨_, _, rfl⟩
  have hin : ∀ k, 1 ≤ k → k ≤ 9 → InSp sp k z1 z2 := fun k k1 k9 => by
    have h := hgf1 k k1 k9
    unfold SpOk at h
    rw [hz] at h
    exact h
  have hwi := within_is hgrp (fun _ => False) W2 y sp z1 z2 (H3.out.tr 0 rfl) hin
  rw [NV.v_eq] at hwi
  have HWI := Lib.hid hwi
  have HG := Lib.hid (And.intro hgf2 (And.intro hgf3 (And.intro hgf4 (And.intro hz hgrp))))
  obtain ⟨k0, k1⟩ := mat_box (H3.out.ob 0 rfl) hz
  have kl := lt_of_some (H3.out.ob 0 rfl)
  obtain ⟨e0, e1, e2, e3, e4, e5, e6, e7, e8⟩ := node_box (H3.out.ob 1 rfl)
  have hle := lt_of_some (H3.out.ob 1 rfl)
  clear hgg hrr hgrp hgf1 hgf2 hgf3 hgf4 hz hin hwi
  go_wp2_with (refine wpList_load_row rfl 34 (.tmp 9) rfl b9 rfl 34 (spC sp) (0, 0) _ (H3.out.ob 0 rfl) Tryz.underlying34 rfl (by kernel_rfl) ?_)
  try simp only [Act.put, List.setIfInBounds_toArray, List.set_cons_zero, List.set_cons_succ]
  go_wp2_with fail
  go_at_call 19
  with_reducible refine HWI.out.mono ?_
  rintro e w3 ⟨rfl, hb3⟩
  have H4 := Lib.hid (H3.out.next hb3)
  have hgi := groups_is HG.out.2.2.2.2 (by have := HG.out.2.2.1; omega) (fun _ => False) w3 y (H4.out.tr 0 rfl)
  rw [NV.v_eq] at hgi
  obtain ⟨g, hg⟩ : ∃ g, g = grpC t := ⟨_, rfl⟩
  rw [← hg] at hgi
  have HGI := Lib.hid hgi
  have HGG := Lib.hid hg
  clear hb3 k0 k1 kl e0 e1 e2 e3 e4 e5 e6 e7 e8 hle hgi hg
  obtain ⟨e0, e1, e2, e3, e4, e5, e6, e7, e8⟩ := node_box (H4.out.ob 1 rfl)
  have hle := lt_of_some (H4.out.ob 1 rfl)
  go_wp2_with fail
  go_at_call 20
  with_reducible refine HGI.out.mono ?_
  rintro e w4 ⟨rfl, hb4⟩
  have H5 := Lib.hid (H4.out.next hb4)
  clear hb4 e0 e1 e2 e3 e4 e5 e6 e7 e8 hle
  go_wp2_with fail
  go_loopw [13] (fun kv wr => ∃ k : Nat, kv = .int .i64 (k : Int) ∧ 1 ≤ k ∧ k ≤ 10 ∧ wr = w4) (fun kv _ => 10 - (intOf kv).toNat)
  case atStart => exact ⟨1, rfl, Nat.le_refl _, by omega, rfl⟩
  case round =>
  obtain ⟨k, rfl, hk1, hk10, hwr⟩ := hrel
  have hwr2 := hwr.symm
  clear hwr
  subst hwr2
  by_cases hlt : k < 10
  · have hkI : (k : Int) < 10 := by omega
    have hk0 : (0 : Int) ≤ (k : Int) := by omega
    have dkI : decide ((k : Int) < 10) = true := decide_eq_true hkI
    have dkN : decide (k < 10) = true := decide_eq_true hlt
    have HK := Lib.hid (And.intro hk1 hlt)
    have hcl := lt_of_some (H5.out.ob 0 rfl)
    by_cases hg : g < k
    · have dg : decide ((g : Int) < (k : Int)) = true := decide_eq_true (by omega)
      have dgn : decide (g < k) = true := decide_eq_true hg
      have hsp := HG.out.1 k hk1 (by omega) (by rw [← HGG.out]; exact hg)
      have q0 : w4.cell? ⟨b9, k * 2, none⟩ = some (.int .i64 (-1)) := by
        rw [obj_cell (H5.out.ob 0 rfl), (spC_cell sp k hlt).1, hsp]
      have q1 : w4.cell? ⟨b9, k * 2 + 1, none⟩ = some (.int .i64 (-1)) := by
        rw [obj_cell (H5.out.ob 0 rfl), (spC_cell sp k hlt).2, hsp]
      clear hk1 hk10 hlt hg hsp
      go_wp2_with fail
      go_roundw
      case rel => exact ⟨k + 1, by go_num, by omega, HK.out.2, by first | rfl | trivial⟩
      case measure => have := HK.out.2; simp [intOf]; omega
    · have dg : decide ((g : Int) < (k : Int)) = false := decide_eq_false (by omega)
      have dgn : decide (g < k) = false := decide_eq_false hg
      clear hk1 hk10 hlt hg
      go_wp2_with fail
      go_roundw
      case rel => exact ⟨k + 1, by go_num, by omega, HK.out.2, by first | rfl | trivial⟩
      case measure => have := HK.out.2; simp [intOf]; omega
  · have dkI : decide ((k : Int) < 10) = false := decide_eq_false (by omega)
    have dkN : decide (k < 10) = false := decide_eq_false hlt
    clear hk1 hk10 hlt
    by_cases h5 : y.kind = 5
    · have d5 : (y.kind == 5) = true := by rw [h5]; rfl
      have d5n : (y.kind != 5) = false := by rw [h5]; rfl
      have h15 : sp 1 = (z1, z2) := by rw [← HG.out.2.2.2.1]; exact HG.out.2.1 (by rw [← kind_is (H5.out.tr 0 rfl)]; exact h5)
      have HS1 := Lib.hid h15
      clear h5 h15
      go_wp2_with fail
      go_at_call 15
      with_reducible refine (HA.out _ H5.out.bel).mono ?_
      rintro e wz ⟨rfl, hb⟩
      have H9 := Lib.hid (H5.out.next hb)
      obtain ⟨e0, _, _, _, _, _, _, _, _⟩ := node_box (H9.out.ob 1 rfl)
      have hle := lt_of_some (H9.out.ob 1 rfl)
      obtain ⟨p0, p1⟩ := mat_box (H9.out.ob 0 rfl) HG.out.2.2.2.1
      obtain ⟨p2, p3⟩ := mat_box1 (H9.out.ob 0 rfl) HS1.out
      have pl := lt_of_some (H9.out.ob 0 rfl)
      have HBB := Lib.hid (H5.out.bel.trans (hb.mono H5.out.bel.size))
      clear hb
      go_wp2_with fail
      go_ret
      exact ⟨rfl, HBB.out⟩
    · have d5 : (y.kind == 5) = false := beq_eq_false_iff_ne.2 h5
      have d5n : (y.kind != 5) = true := bne_iff_ne.2 h5
      clear h5
      go_wp2_with fail
      go_at_call 15
      with_reducible refine (HA.out _ H5.out.bel).mono ?_
      rintro e wz ⟨rfl, hb⟩
      have H9 := Lib.hid (H5.out.next hb)
      obtain ⟨e0, _, _, _, _, _, _, _, _⟩ := node_box (H9.out.ob 1 rfl)
      have hle := lt_of_some (H9.out.ob 1 rfl)
      have HBB := Lib.hid (H5.out.bel.trans (hb.mono H5.out.bel.size))
      clear hb
      go_wp2_with fail
      go_ret
      exact ⟨rfl, HBB.out⟩
end Go.Proofs.YtcbgbicdfpkikaaGreatDoor

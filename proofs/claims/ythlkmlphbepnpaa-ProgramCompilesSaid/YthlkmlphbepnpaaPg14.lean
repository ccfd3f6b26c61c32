/-
  The law's commands, walked. No condition.
-/
import Derived.Test.YthlkmlphbepnpaaPg13
namespace Go.Proofs.Ythlkmlphbepnpaa
open Go.RowKit Go.Deep

section
variable {P : Program} {ops : Array Oper} {Q : Exit → Act → World → Prop} {S : World → Prop} {late : Nat → Bool}
theorem tail_plain {k : Nat} {ks : List Nat} {a : Act} {w : World} {o : Oper} (ho : ops[k]? = some o) (hg : o.guard = none) (h : ∀ K : Act → World → Prop, (∀ a' w', (late k = false → S w') ∧ wpTail P ops Q S late ks a' w' → K a' w') → Oper.wp P o a w K Q) : wpTail P ops Q S late (k :: ks) a w :=
  tail_step ho fun K hK => by
    rw [if_pos (show Region.wanted o (yielded ops a.tmps) = true by unfold Region.wanted; rw [hg])]
    exact h K hK
end
theorem wp_build_all {o : Oper} {a : Act} {w : World} {K : Act → World → Prop} {Q : Exit → Act → World → Prop} (x y z u : Operand) (ho : o.op = .build 51 #[(1, x), (5, y), (13, z), (0, u)]) {n : Int} {re im : Nat} {t f : ByteArray} (hx : a.eval x = .int .u8 n) (hy : a.eval y = .string t) (hz : a.eval z = .string f) (hu : a.eval u = .complex .f64 re im)
    (h : K (a.put o.dst (CM.v ⟨re, im, n, t, f⟩)) w) : o.wp Try.prog a w K Q := by
  have hb : Try.prog.built 51 ((#[(1, x), (5, y), (13, z), (0, u)] : Array (Nat × Operand)).map fun (i, x) => (i, a.eval x)).toList = some (CM.cells ⟨re, im, n, t, f⟩).toArray := by
    simp only [List.map_toArray, List.map_cons, List.map_nil, hx, hy, hz, hu]
    exact built_all n t f re im
  refine wp_build 51 _ ho (by rw [hb]; rfl) ?_
  rw [hb]
  exact h
theorem complex_run (a b : Nat) (w : World) : (Builtin.complex_ #[55, 55] 28 #[.float .f64 a, .float .f64 b]).run Try.prog w = .ok (.complex .f64 a b) w := by kernel_rfl
set_option maxRecDepth 100000 in
set_option maxHeartbeats 8000000 in
theorem commands_is {l : List BM} {cl : Nat} {A : Option Addr} {w : World} (hr : RawAt w A (bmV l)) :
    Calls Try.prog 8 #[.slice A l.length cl] w (CmdsAns l w) := by
  unfold CmdsAns
  have HR := Lib.hid (show ∀ W, Below w.heap.size w W → RawAt W A (bmV l) from fun W hW => hr.below hW)
  have HS := Lib.hid (show CdJ l w w 0 (.slice none 0 0) from ⟨Nat.zero_le _, Nat.zero_le _, fun b hb => by simp at hb, OwnC.nil w _, Below.refl _ _⟩)
  clear hr
  go_enter Try.func8, Try.ntmps8
  go_wp2_with fail
  go_loopw [4, 5, 6] (fun v iv _ wz => ∃ (m : Nat) (V : Value), V = v ∧ iv = .int .i64 (m : Int) ∧ Hid (CdJ l w wz m V)) (fun _ iv _ _ => 221 - (intOf iv).toNat)
  case atStart => exact ⟨0, _, rfl, rfl, HS⟩
  case round =>
    clear HS
    obtain ⟨m, v, hv, rfl, HJ⟩ := hrel
    subst hv
    have hle := HJ.out.le
    have hmo := HJ.out.most
    by_cases hm : m < l.length
    case neg =>
      have hd : decide ((m : Int) < (l.length : Int)) = false := decide_eq_false (by omega)
      have hdn : decide (m < l.length) = false := decide_eq_false hm
      have hll : (l.length : Int) ≤ (m : Int) := by omega
      have HE := Lib.hid (show l.length ≤ 220 ∧ (∀ b ∈ l, b.text.size ≤ 100 ∧ b.file.size ≤ 100) ∧ OwnC wr w.heap.size v (l.map BM.cm) by
        have e : l.take m = l := List.take_of_length_le (by omega)
        have h1 := HJ.out.small
        have h2 := HJ.out.own
        rw [e] at h1 h2
        exact ⟨by omega, h1, h2⟩)
      clear hle hmo hm
      go_wp2_with fail
      refine bodyPost_ret (v := .tuple #[v, .bool true]) (by simp [results, Try.results8, go_sem]) rfl ⟨HJ.out.bel, .inr ⟨HE.out.1, HE.out.2.1, v, HE.out.2.2, rfl⟩⟩
    obtain ⟨b, hb⟩ : ∃ b, l[m]? = some b := ⟨l[m], by simp [hm]⟩
    obtain ⟨g, o, rfl, hcells⟩ := raw_elem BM.len (by omega) (HR.out _ HJ.out.bel) hb
    have hli : (m : Int) < (l.length : Int) := by omega
    have hd : decide ((m : Int) < (l.length : Int)) = true := decide_eq_true hli
    have hdn : decide (m < l.length) = true := decide_eq_true hm
    have k1 : wr.cell? ⟨g, o + m * 4 + 1, none⟩ = some (.string b.text) := hcells 1 _ rfl
    have k2 : wr.cell? ⟨g, o + m * 4 + 2, none⟩ = some (.string b.file) := hcells 2 _ rfl
    have k3 : wr.cell? ⟨g, o + m * 4 + 3, none⟩ = some (.int .i64 b.line) := hcells 3 _ rfl
    have HBE := Lib.hid hb
    have HLT := Lib.hid hm
    have HCE := Lib.hid hcells
    by_cases h220 : m = 220
    · have g1 : ((m : Int) == 220) = true := by rw [h220]; rfl
      have g1n : (m == 220) = true := by rw [h220]; rfl
      clear hle hmo hm hb hcells h220
      go_wp2_with fail
      refine bodyPost_ret (v := .tuple #[.slice none 0 0, .bool false]) (by simp [results, Try.results8, go_sem]) rfl ⟨HJ.out.bel, .inl rfl⟩
    have g1 : ((m : Int) == 220) = false := by rw [beq_eq_false_iff_ne]; omega
    have g1n : (m == 220) = false := by rw [beq_eq_false_iff_ne]; exact h220
    by_cases ht : 100 < b.text.size
    · have g2 : decide ((100 : Int) < (b.text.size : Int)) = true := decide_eq_true (by omega)
      have g2n : decide (100 < b.text.size) = true := decide_eq_true ht
      clear hle hmo hm hb hcells h220 ht
      go_wp2_with fail
      refine bodyPost_ret (v := .tuple #[.slice none 0 0, .bool false]) (by simp [results, Try.results8, go_sem]) rfl ⟨HJ.out.bel, .inl rfl⟩
    have g2 : decide ((100 : Int) < (b.text.size : Int)) = false := decide_eq_false (by omega)
    have g2n : decide (100 < b.text.size) = false := decide_eq_false ht
    by_cases hf : 100 < b.file.size
    · have g3 : decide ((100 : Int) < (b.file.size : Int)) = true := decide_eq_true (by omega)
      have g3n : decide (100 < b.file.size) = true := decide_eq_true hf
      clear hle hmo hm hb hcells h220 ht hf
      go_wp2_with fail
      refine bodyPost_ret (v := .tuple #[.slice none 0 0, .bool false]) (by simp [results, Try.results8, go_sem]) rfl ⟨HJ.out.bel, .inl rfl⟩
    have g3 : decide ((100 : Int) < (b.file.size : Int)) = false := decide_eq_false (by omega)
    have g3n : decide (100 < b.file.size) = false := decide_eq_false hf
    have HTF := Lib.hid (show m < 220 ∧ b.text.size ≤ 100 ∧ b.file.size ≤ 100 by omega)
    have HS := Lib.hid fun (V : World) (hV : Below wr.heap.size wr V) => (show V.cell? ⟨g, o + m * 4, none⟩ = some (.int .u8 b.name) ∧ V.cell? ⟨g, o + m * 4 + 1, none⟩ = some (.string b.text) ∧ V.cell? ⟨g, o + m * 4 + 2, none⟩ = some (.string b.file) from by
      have hgl : g < wr.heap.size := World.block_lt_of_cell? _ _ (hcells 0 _ rfl)
      have hb := hV.block g hgl
      exact ⟨(World.cell?_of_block hb).trans (hcells 0 _ rfl), (World.cell?_of_block hb).trans (hcells 1 _ rfl), (World.cell?_of_block hb).trans (hcells 2 _ rfl)⟩)
    clear hle hmo hm hb hcells h220 ht hf
    by_cases hx1 : b.line < 0
    · have d1 : decide (b.line < 0) = true := decide_eq_true hx1
      have HX := Lib.hid (show lineB b.line = 0 by unfold lineB; rw [if_pos (.inl hx1)])
      clear hx1
      go_upto_region 10 with fail
      clear HR hd hdn g1 g1n g2 g2n g3 g3n k3 k1 k2
      have hm := HLT.out
      have hcx := complex_run
      have HV0 := Lib.hid (show Below wr.heap.size wr wr.drew from (Below.refl wr.heap.size wr).drew)
      refine wp_region_heads (fun wx => wx.cell? ⟨g, o + m * 4, none⟩ = some (.int .u8 b.name) ∧ wx.cell? ⟨g, o + m * 4 + 1, none⟩ = some (.string b.text) ∧ wx.cell? ⟨g, o + m * 4 + 2, none⟩ = some (.string b.file)) [0, 1, 2, 3, 4, 5, 6, 7, 8, 9, 10, 11, 12, 13, 14, 15, 16, 17, 18] [19, 20, 21, 22] [21, 22] (by kernel_rfl) (by kernel_rfl) (by kernel_rfl) (fun c a d v wq h => hq_body (P := Try.prog) (fn := Try.f8) (R := CmdsAns l w) c a d v wq h) (by kernel_rfl) (HS.out _ HV0.out) ?_
      refine heads_step (v := ?_) rfl (by rfl) (fun wx hSw => ?_) ?_
      rotate_left
      · obtain ⟨u0, u1, u2⟩ := hSw
        go_simp
        try with_reducible rfl
      try simp only [Act.put, List.getElem_toArray, List.getElem_cons_zero, List.setIfInBounds_toArray, List.set_cons_zero, List.set_cons_succ]
      refine heads_step (v := ?_) rfl (by rfl) (fun wx hSw => ?_) ?_
      rotate_left
      · obtain ⟨u0, u1, u2⟩ := hSw
        go_simp
        try with_reducible rfl
      try simp only [Act.put, List.getElem_toArray, List.getElem_cons_succ, List.getElem_cons_zero, List.setIfInBounds_toArray, List.set_cons_zero, List.set_cons_succ]
      refine heads_step (v := ?_) rfl (by rfl) (fun wx hSw => ?_) ?_
      rotate_left
      · obtain ⟨u0, u1, u2⟩ := hSw
        go_simp
        try with_reducible rfl
      try simp only [Act.put, List.getElem_toArray, List.getElem_cons_succ, List.getElem_cons_zero, List.setIfInBounds_toArray, List.set_cons_zero, List.set_cons_succ]
      refine heads_step (v := ?_) rfl (by rfl) (fun wx hSw => ?_) ?_
      rotate_left
      · obtain ⟨u0, u1, u2⟩ := hSw
        go_simp
        try with_reducible rfl
      try simp only [Act.put, List.getElem_toArray, List.getElem_cons_succ, List.getElem_cons_zero, List.setIfInBounds_toArray, List.set_cons_zero, List.set_cons_succ]
      refine heads_step (v := ?_) rfl (by rfl) (fun wx hSw => ?_) ?_
      rotate_left
      · obtain ⟨u0, u1, u2⟩ := hSw
        go_simp
        try with_reducible rfl
      try simp only [Act.put, List.getElem_toArray, List.getElem_cons_succ, List.getElem_cons_zero, List.setIfInBounds_toArray, List.set_cons_zero, List.set_cons_succ]
      refine heads_step (v := ?_) rfl (by rfl) (fun wx hSw => ?_) ?_
      rotate_left
      · obtain ⟨u0, u1, u2⟩ := hSw
        go_simp
        try with_reducible rfl
      try simp only [Act.put, List.getElem_toArray, List.getElem_cons_succ, List.getElem_cons_zero, List.setIfInBounds_toArray, List.set_cons_zero, List.set_cons_succ]
      refine heads_step (v := ?_) rfl (by rfl) (fun wx hSw => ?_) ?_
      rotate_left
      · obtain ⟨u0, u1, u2⟩ := hSw
        go_simp
        try with_reducible rfl
      try simp only [Act.put, List.getElem_toArray, List.getElem_cons_succ, List.getElem_cons_zero, List.setIfInBounds_toArray, List.set_cons_zero, List.set_cons_succ]
      refine heads_step (v := ?_) rfl (by rfl) (fun wx hSw => ?_) ?_
      rotate_left
      · obtain ⟨u0, u1, u2⟩ := hSw
        go_simp
        try with_reducible rfl
      try simp only [Act.put, List.getElem_toArray, List.getElem_cons_succ, List.getElem_cons_zero, List.setIfInBounds_toArray, List.set_cons_zero, List.set_cons_succ]
      refine heads_step (v := ?_) rfl (by rfl) (fun wx hSw => ?_) ?_
      rotate_left
      · obtain ⟨u0, u1, u2⟩ := hSw
        go_simp
        try with_reducible rfl
      try simp only [Act.put, List.getElem_toArray, List.getElem_cons_succ, List.getElem_cons_zero, List.setIfInBounds_toArray, List.set_cons_zero, List.set_cons_succ]
      refine heads_step (v := ?_) rfl (by rfl) (fun wx hSw => ?_) ?_
      rotate_left
      · obtain ⟨u0, u1, u2⟩ := hSw
        go_simp
        try with_reducible rfl
      try simp only [Act.put, List.getElem_toArray, List.getElem_cons_succ, List.getElem_cons_zero, List.setIfInBounds_toArray, List.set_cons_zero, List.set_cons_succ]
      refine heads_step (v := ?_) rfl (by rfl) (fun wx hSw => ?_) ?_
      rotate_left
      · obtain ⟨u0, u1, u2⟩ := hSw
        go_simp
        try with_reducible rfl
      try simp only [Act.put, List.getElem_toArray, List.getElem_cons_succ, List.getElem_cons_zero, List.setIfInBounds_toArray, List.set_cons_zero, List.set_cons_succ]
      refine heads_step (v := ?_) rfl (by rfl) (fun wx hSw => ?_) ?_
      rotate_left
      · obtain ⟨u0, u1, u2⟩ := hSw
        go_simp
        try with_reducible rfl
      try simp only [Act.put, List.getElem_toArray, List.getElem_cons_succ, List.getElem_cons_zero, List.setIfInBounds_toArray, List.set_cons_zero, List.set_cons_succ]
      refine heads_step (v := ?_) rfl (by rfl) (fun wx hSw => ?_) ?_
      rotate_left
      · obtain ⟨u0, u1, u2⟩ := hSw
        go_simp
        try with_reducible rfl
      try simp only [Act.put, List.getElem_toArray, List.getElem_cons_succ, List.getElem_cons_zero, List.setIfInBounds_toArray, List.set_cons_zero, List.set_cons_succ]
      refine heads_step (v := ?_) rfl (by rfl) (fun wx hSw => ?_) ?_
      rotate_left
      · obtain ⟨u0, u1, u2⟩ := hSw
        go_simp
        try with_reducible rfl
      try simp only [Act.put, List.getElem_toArray, List.getElem_cons_succ, List.getElem_cons_zero, List.setIfInBounds_toArray, List.set_cons_zero, List.set_cons_succ]
      refine heads_step (v := ?_) rfl (by rfl) (fun wx hSw => ?_) ?_
      rotate_left
      · obtain ⟨u0, u1, u2⟩ := hSw
        go_simp
        try with_reducible rfl
      try simp only [Act.put, List.getElem_toArray, List.getElem_cons_succ, List.getElem_cons_zero, List.setIfInBounds_toArray, List.set_cons_zero, List.set_cons_succ]
      refine heads_step (v := ?_) rfl (by rfl) (fun wx hSw => ?_) ?_
      rotate_left
      · obtain ⟨u0, u1, u2⟩ := hSw
        go_simp
        try with_reducible rfl
      try simp only [Act.put, List.getElem_toArray, List.getElem_cons_succ, List.getElem_cons_zero, List.setIfInBounds_toArray, List.set_cons_zero, List.set_cons_succ]
      refine heads_step (v := ?_) rfl (by rfl) (fun wx hSw => ?_) ?_
      rotate_left
      · obtain ⟨u0, u1, u2⟩ := hSw
        go_simp
        try with_reducible rfl
      try simp only [Act.put, List.getElem_toArray, List.getElem_cons_succ, List.getElem_cons_zero, List.setIfInBounds_toArray, List.set_cons_zero, List.set_cons_succ]
      refine heads_step (v := ?_) rfl (by rfl) (fun wx hSw => ?_) ?_
      rotate_left
      · obtain ⟨u0, u1, u2⟩ := hSw
        go_simp
        try with_reducible rfl
      try simp only [Act.put, List.getElem_toArray, List.getElem_cons_succ, List.getElem_cons_zero, List.setIfInBounds_toArray, List.set_cons_zero, List.set_cons_succ]
      refine heads_step (v := ?_) rfl (by rfl) (fun wx hSw => ?_) ?_
      rotate_left
      · obtain ⟨u0, u1, u2⟩ := hSw
        go_simp
        try with_reducible rfl
      try simp only [Act.put, List.getElem_toArray, List.getElem_cons_succ, List.getElem_cons_zero, List.setIfInBounds_toArray, List.set_cons_zero, List.set_cons_succ]
      refine heads_end ?_
      have HCM := Lib.hid (show b.cm = (⟨floatOfInt .f64 0, 4607182418800017408, b.name, b.text, b.file⟩ : CM) by unfold BM.cm; rw [HX.out]; rfl)
      refine tail_plain rfl rfl (fun K hK => ?_)
      try simp only [List.getElem_toArray, List.getElem_cons_succ, List.getElem_cons_zero]
      refine wp_build_all (.tmp 49) (.tmp 54) (.tmp 59) (.tmp 62) rfl rfl rfl rfl rfl ?_
      refine hK _ _ ⟨fun _ => HS.out _ HV0.out, ?_⟩
      clear hK K
      try simp only [Act.put, List.setIfInBounds_toArray, List.set_cons_zero, List.set_cons_succ]
      refine tail_plain rfl rfl (fun K hK => ?_)
      try simp only [List.getElem_toArray, List.getElem_cons_succ, List.getElem_cons_zero]
      refine wp_lit_one (.tmp 63) rfl (c := (⟨floatOfInt .f64 0, 4607182418800017408, b.name, b.text, b.file⟩ : CM)) rfl ?_
      intro W1 g1 hg1 hown1 hb1
      have HW1 := Lib.hid (show Below wr.heap.size wr W1 from HV0.out.trans hb1)
      refine hK _ _ ⟨fun _ => HS.out _ HW1.out, ?_⟩
      have HO1 := Lib.hid (HJ.out.own.below HW1.out)
      have HR1 := Lib.hid (show RawAt W1 (some ⟨g1, 0, none⟩) (cmV [(⟨floatOfInt .f64 0, 4607182418800017408, b.name, b.text, b.file⟩ : CM)]) by
        obtain ⟨A, c, e, h⟩ := hown1.raw
        injection e with e
        subst e
        exact h)
      clear hg1 hown1 hb1 hK K
      try simp only [Act.put, List.setIfInBounds_toArray, List.set_cons_zero, List.set_cons_succ]
      refine tail_plain rfl rfl (fun K hK => ?_)
      try simp only [List.getElem_toArray, List.getElem_cons_succ, List.getElem_cons_zero]
      refine wp_append_cmd 65 [(⟨floatOfInt .f64 0, 4607182418800017408, b.name, b.text, b.file⟩ : CM)] HO1.out HR1.out rfl rfl rfl (by have := HTF.out; simp only [List.length_map, List.length_take, List.length_cons, List.length_nil]; omega) (by have := HJ.out.bel.size; have := HW1.out.size; omega) ?_
      intro v2 W2 hown2 ht2 hk2
      have HW2 := Lib.hid (show Below w.heap.size w W2 from (HJ.out.bel.trans (HW1.out.mono HJ.out.bel.size)).trans (ht2.below (by have := HJ.out.bel.size; have := HW1.out.size; omega) fun k hk => (World.ownsRow.lt HJ.out.own k hk).1))
      obtain ⟨m1, hm1⟩ : ∃ m1, m1 = m + 1 := ⟨_, rfl⟩
      have hadd : IntKind.i64.wrap ((m : Int) + 1) = (m1 : Int) := by have := HTF.out; rw [IntWalk.i64_in _ (by omega)]; omega
      have HN := Lib.hid (show CdJ l w W2 m1 v2 by rw [hm1]; exact HJ.out.put HBE.out HTF.out.1 HTF.out.2.1 HTF.out.2.2 (by rw [HCM.out]; exact hown2) HW2.out)
      refine hK _ _ ⟨fun h => by simp at h, ?_⟩
      have HM1 := Lib.hid (And.intro hm1 HTF.out)
      have hmm : m ≤ 220 := by have := HTF.out; omega
      clear hown2 ht2 hk2 hK K hm1
      try simp only [Act.put, List.setIfInBounds_toArray, List.set_cons_zero, List.set_cons_succ]
      refine tail_step rfl (fun K hK => ?_)
      go_simp
      refine hK _ _ ⟨fun h => by simp at h, ?_⟩
      clear hK K
      try simp only [Act.put, List.getElem_toArray, List.getElem_cons_succ, List.getElem_cons_zero, List.setIfInBounds_toArray, List.set_cons_zero, List.set_cons_succ]
      refine tail_end ?_
      go_wp2_with fail
      go_roundw
      case rel => exact ⟨m1, v2, rfl, rfl, HN⟩
      case measure => have := HM1.out; simp [intOf]; omega
    have d1 : decide (b.line < 0) = false := decide_eq_false hx1
    by_cases hx2 : 1000000 < b.line
    · have d2 : decide (1000000 < b.line) = true := decide_eq_true hx2
      have HX := Lib.hid (show lineB b.line = 0 by unfold lineB; rw [if_pos (.inr hx2)])
      clear hx1 hx2
      go_upto_region 10 with fail
      clear HR hd hdn g1 g1n g2 g2n g3 g3n k3 k1 k2
      have hm := HLT.out
      have hcx := complex_run
      have HV0 := Lib.hid (show Below wr.heap.size wr wr.drew from (Below.refl wr.heap.size wr).drew)
      refine wp_region_heads (fun wx => wx.cell? ⟨g, o + m * 4, none⟩ = some (.int .u8 b.name) ∧ wx.cell? ⟨g, o + m * 4 + 1, none⟩ = some (.string b.text) ∧ wx.cell? ⟨g, o + m * 4 + 2, none⟩ = some (.string b.file)) [0, 1, 2, 3, 4, 5, 6, 7, 8, 9, 10, 11, 12, 13, 14, 15, 16, 17, 18] [19, 20, 21, 22] [21, 22] (by kernel_rfl) (by kernel_rfl) (by kernel_rfl) (fun c a d v wq h => hq_body (P := Try.prog) (fn := Try.f8) (R := CmdsAns l w) c a d v wq h) (by kernel_rfl) (HS.out _ HV0.out) ?_
      refine heads_step (v := ?_) rfl (by rfl) (fun wx hSw => ?_) ?_
      rotate_left
      · obtain ⟨u0, u1, u2⟩ := hSw
        go_simp
        try with_reducible rfl
      try simp only [Act.put, List.getElem_toArray, List.getElem_cons_zero, List.setIfInBounds_toArray, List.set_cons_zero, List.set_cons_succ]
      refine heads_step (v := ?_) rfl (by rfl) (fun wx hSw => ?_) ?_
      rotate_left
      · obtain ⟨u0, u1, u2⟩ := hSw
        go_simp
        try with_reducible rfl
      try simp only [Act.put, List.getElem_toArray, List.getElem_cons_succ, List.getElem_cons_zero, List.setIfInBounds_toArray, List.set_cons_zero, List.set_cons_succ]
      refine heads_step (v := ?_) rfl (by rfl) (fun wx hSw => ?_) ?_
      rotate_left
      · obtain ⟨u0, u1, u2⟩ := hSw
        go_simp
        try with_reducible rfl
      try simp only [Act.put, List.getElem_toArray, List.getElem_cons_succ, List.getElem_cons_zero, List.setIfInBounds_toArray, List.set_cons_zero, List.set_cons_succ]
      refine heads_step (v := ?_) rfl (by rfl) (fun wx hSw => ?_) ?_
      rotate_left
      · obtain ⟨u0, u1, u2⟩ := hSw
        go_simp
        try with_reducible rfl
      try simp only [Act.put, List.getElem_toArray, List.getElem_cons_succ, List.getElem_cons_zero, List.setIfInBounds_toArray, List.set_cons_zero, List.set_cons_succ]
      refine heads_step (v := ?_) rfl (by rfl) (fun wx hSw => ?_) ?_
      rotate_left
      · obtain ⟨u0, u1, u2⟩ := hSw
        go_simp
        try with_reducible rfl
      try simp only [Act.put, List.getElem_toArray, List.getElem_cons_succ, List.getElem_cons_zero, List.setIfInBounds_toArray, List.set_cons_zero, List.set_cons_succ]
      refine heads_step (v := ?_) rfl (by rfl) (fun wx hSw => ?_) ?_
      rotate_left
      · obtain ⟨u0, u1, u2⟩ := hSw
        go_simp
        try with_reducible rfl
      try simp only [Act.put, List.getElem_toArray, List.getElem_cons_succ, List.getElem_cons_zero, List.setIfInBounds_toArray, List.set_cons_zero, List.set_cons_succ]
      refine heads_step (v := ?_) rfl (by rfl) (fun wx hSw => ?_) ?_
      rotate_left
      · obtain ⟨u0, u1, u2⟩ := hSw
        go_simp
        try with_reducible rfl
      try simp only [Act.put, List.getElem_toArray, List.getElem_cons_succ, List.getElem_cons_zero, List.setIfInBounds_toArray, List.set_cons_zero, List.set_cons_succ]
      refine heads_step (v := ?_) rfl (by rfl) (fun wx hSw => ?_) ?_
      rotate_left
      · obtain ⟨u0, u1, u2⟩ := hSw
        go_simp
        try with_reducible rfl
      try simp only [Act.put, List.getElem_toArray, List.getElem_cons_succ, List.getElem_cons_zero, List.setIfInBounds_toArray, List.set_cons_zero, List.set_cons_succ]
      refine heads_step (v := ?_) rfl (by rfl) (fun wx hSw => ?_) ?_
      rotate_left
      · obtain ⟨u0, u1, u2⟩ := hSw
        go_simp
        try with_reducible rfl
      try simp only [Act.put, List.getElem_toArray, List.getElem_cons_succ, List.getElem_cons_zero, List.setIfInBounds_toArray, List.set_cons_zero, List.set_cons_succ]
      refine heads_step (v := ?_) rfl (by rfl) (fun wx hSw => ?_) ?_
      rotate_left
      · obtain ⟨u0, u1, u2⟩ := hSw
        go_simp
        try with_reducible rfl
      try simp only [Act.put, List.getElem_toArray, List.getElem_cons_succ, List.getElem_cons_zero, List.setIfInBounds_toArray, List.set_cons_zero, List.set_cons_succ]
      refine heads_step (v := ?_) rfl (by rfl) (fun wx hSw => ?_) ?_
      rotate_left
      · obtain ⟨u0, u1, u2⟩ := hSw
        go_simp
        try with_reducible rfl
      try simp only [Act.put, List.getElem_toArray, List.getElem_cons_succ, List.getElem_cons_zero, List.setIfInBounds_toArray, List.set_cons_zero, List.set_cons_succ]
      refine heads_step (v := ?_) rfl (by rfl) (fun wx hSw => ?_) ?_
      rotate_left
      · obtain ⟨u0, u1, u2⟩ := hSw
        go_simp
        try with_reducible rfl
      try simp only [Act.put, List.getElem_toArray, List.getElem_cons_succ, List.getElem_cons_zero, List.setIfInBounds_toArray, List.set_cons_zero, List.set_cons_succ]
      refine heads_step (v := ?_) rfl (by rfl) (fun wx hSw => ?_) ?_
      rotate_left
      · obtain ⟨u0, u1, u2⟩ := hSw
        go_simp
        try with_reducible rfl
      try simp only [Act.put, List.getElem_toArray, List.getElem_cons_succ, List.getElem_cons_zero, List.setIfInBounds_toArray, List.set_cons_zero, List.set_cons_succ]
      refine heads_step (v := ?_) rfl (by rfl) (fun wx hSw => ?_) ?_
      rotate_left
      · obtain ⟨u0, u1, u2⟩ := hSw
        go_simp
        try with_reducible rfl
      try simp only [Act.put, List.getElem_toArray, List.getElem_cons_succ, List.getElem_cons_zero, List.setIfInBounds_toArray, List.set_cons_zero, List.set_cons_succ]
      refine heads_step (v := ?_) rfl (by rfl) (fun wx hSw => ?_) ?_
      rotate_left
      · obtain ⟨u0, u1, u2⟩ := hSw
        go_simp
        try with_reducible rfl
      try simp only [Act.put, List.getElem_toArray, List.getElem_cons_succ, List.getElem_cons_zero, List.setIfInBounds_toArray, List.set_cons_zero, List.set_cons_succ]
      refine heads_step (v := ?_) rfl (by rfl) (fun wx hSw => ?_) ?_
      rotate_left
      · obtain ⟨u0, u1, u2⟩ := hSw
        go_simp
        try with_reducible rfl
      try simp only [Act.put, List.getElem_toArray, List.getElem_cons_succ, List.getElem_cons_zero, List.setIfInBounds_toArray, List.set_cons_zero, List.set_cons_succ]
      refine heads_step (v := ?_) rfl (by rfl) (fun wx hSw => ?_) ?_
      rotate_left
      · obtain ⟨u0, u1, u2⟩ := hSw
        go_simp
        try with_reducible rfl
      try simp only [Act.put, List.getElem_toArray, List.getElem_cons_succ, List.getElem_cons_zero, List.setIfInBounds_toArray, List.set_cons_zero, List.set_cons_succ]
      refine heads_step (v := ?_) rfl (by rfl) (fun wx hSw => ?_) ?_
      rotate_left
      · obtain ⟨u0, u1, u2⟩ := hSw
        go_simp
        try with_reducible rfl
      try simp only [Act.put, List.getElem_toArray, List.getElem_cons_succ, List.getElem_cons_zero, List.setIfInBounds_toArray, List.set_cons_zero, List.set_cons_succ]
      refine heads_step (v := ?_) rfl (by rfl) (fun wx hSw => ?_) ?_
      rotate_left
      · obtain ⟨u0, u1, u2⟩ := hSw
        go_simp
        try with_reducible rfl
      try simp only [Act.put, List.getElem_toArray, List.getElem_cons_succ, List.getElem_cons_zero, List.setIfInBounds_toArray, List.set_cons_zero, List.set_cons_succ]
      refine heads_end ?_
      have HCM := Lib.hid (show b.cm = (⟨floatOfInt .f64 0, 4607182418800017408, b.name, b.text, b.file⟩ : CM) by unfold BM.cm; rw [HX.out]; rfl)
      refine tail_plain rfl rfl (fun K hK => ?_)
      try simp only [List.getElem_toArray, List.getElem_cons_succ, List.getElem_cons_zero]
      refine wp_build_all (.tmp 49) (.tmp 54) (.tmp 59) (.tmp 62) rfl rfl rfl rfl rfl ?_
      refine hK _ _ ⟨fun _ => HS.out _ HV0.out, ?_⟩
      clear hK K
      try simp only [Act.put, List.setIfInBounds_toArray, List.set_cons_zero, List.set_cons_succ]
      refine tail_plain rfl rfl (fun K hK => ?_)
      try simp only [List.getElem_toArray, List.getElem_cons_succ, List.getElem_cons_zero]
      refine wp_lit_one (.tmp 63) rfl (c := (⟨floatOfInt .f64 0, 4607182418800017408, b.name, b.text, b.file⟩ : CM)) rfl ?_
      intro W1 g1 hg1 hown1 hb1
      have HW1 := Lib.hid (show Below wr.heap.size wr W1 from HV0.out.trans hb1)
      refine hK _ _ ⟨fun _ => HS.out _ HW1.out, ?_⟩
      have HO1 := Lib.hid (HJ.out.own.below HW1.out)
      have HR1 := Lib.hid (show RawAt W1 (some ⟨g1, 0, none⟩) (cmV [(⟨floatOfInt .f64 0, 4607182418800017408, b.name, b.text, b.file⟩ : CM)]) by
        obtain ⟨A, c, e, h⟩ := hown1.raw
        injection e with e
        subst e
        exact h)
      clear hg1 hown1 hb1 hK K
      try simp only [Act.put, List.setIfInBounds_toArray, List.set_cons_zero, List.set_cons_succ]
      refine tail_plain rfl rfl (fun K hK => ?_)
      try simp only [List.getElem_toArray, List.getElem_cons_succ, List.getElem_cons_zero]
      refine wp_append_cmd 65 [(⟨floatOfInt .f64 0, 4607182418800017408, b.name, b.text, b.file⟩ : CM)] HO1.out HR1.out rfl rfl rfl (by have := HTF.out; simp only [List.length_map, List.length_take, List.length_cons, List.length_nil]; omega) (by have := HJ.out.bel.size; have := HW1.out.size; omega) ?_
      intro v2 W2 hown2 ht2 hk2
      have HW2 := Lib.hid (show Below w.heap.size w W2 from (HJ.out.bel.trans (HW1.out.mono HJ.out.bel.size)).trans (ht2.below (by have := HJ.out.bel.size; have := HW1.out.size; omega) fun k hk => (World.ownsRow.lt HJ.out.own k hk).1))
      obtain ⟨m1, hm1⟩ : ∃ m1, m1 = m + 1 := ⟨_, rfl⟩
      have hadd : IntKind.i64.wrap ((m : Int) + 1) = (m1 : Int) := by have := HTF.out; rw [IntWalk.i64_in _ (by omega)]; omega
      have HN := Lib.hid (show CdJ l w W2 m1 v2 by rw [hm1]; exact HJ.out.put HBE.out HTF.out.1 HTF.out.2.1 HTF.out.2.2 (by rw [HCM.out]; exact hown2) HW2.out)
      refine hK _ _ ⟨fun h => by simp at h, ?_⟩
      have HM1 := Lib.hid (And.intro hm1 HTF.out)
      have hmm : m ≤ 220 := by have := HTF.out; omega
      clear hown2 ht2 hk2 hK K hm1
      try simp only [Act.put, List.setIfInBounds_toArray, List.set_cons_zero, List.set_cons_succ]
      refine tail_step rfl (fun K hK => ?_)
      go_simp
      refine hK _ _ ⟨fun h => by simp at h, ?_⟩
      clear hK K
      try simp only [Act.put, List.getElem_toArray, List.getElem_cons_succ, List.getElem_cons_zero, List.setIfInBounds_toArray, List.set_cons_zero, List.set_cons_succ]
      refine tail_end ?_
      go_wp2_with fail
      go_roundw
      case rel => exact ⟨m1, v2, rfl, rfl, HN⟩
      case measure => have := HM1.out; simp [intOf]; omega
    · have d2 : decide (1000000 < b.line) = false := decide_eq_false hx2
      have HX := Lib.hid (show lineB b.line = b.line by unfold lineB; rw [if_neg (by omega)])
      clear hx1 hx2
      go_upto_region 10 with fail
      clear HR hd hdn g1 g1n g2 g2n g3 g3n k3 k1 k2
      have hm := HLT.out
      have hcx := complex_run
      have HV0 := Lib.hid (show Below wr.heap.size wr wr.drew from (Below.refl wr.heap.size wr).drew)
      refine wp_region_heads (fun wx => wx.cell? ⟨g, o + m * 4, none⟩ = some (.int .u8 b.name) ∧ wx.cell? ⟨g, o + m * 4 + 1, none⟩ = some (.string b.text) ∧ wx.cell? ⟨g, o + m * 4 + 2, none⟩ = some (.string b.file)) [0, 1, 2, 3, 4, 5, 6, 7, 8, 9, 10, 11, 12, 13, 14, 15, 16, 17, 18] [19, 20, 21, 22] [21, 22] (by kernel_rfl) (by kernel_rfl) (by kernel_rfl) (fun c a d v wq h => hq_body (P := Try.prog) (fn := Try.f8) (R := CmdsAns l w) c a d v wq h) (by kernel_rfl) (HS.out _ HV0.out) ?_
      refine heads_step (v := ?_) rfl (by rfl) (fun wx hSw => ?_) ?_
      rotate_left
      · obtain ⟨u0, u1, u2⟩ := hSw
        go_simp
        try with_reducible rfl
      try simp only [Act.put, List.getElem_toArray, List.getElem_cons_zero, List.setIfInBounds_toArray, List.set_cons_zero, List.set_cons_succ]
      refine heads_step (v := ?_) rfl (by rfl) (fun wx hSw => ?_) ?_
      rotate_left
      · obtain ⟨u0, u1, u2⟩ := hSw
        go_simp
        try with_reducible rfl
      try simp only [Act.put, List.getElem_toArray, List.getElem_cons_succ, List.getElem_cons_zero, List.setIfInBounds_toArray, List.set_cons_zero, List.set_cons_succ]
      refine heads_step (v := ?_) rfl (by rfl) (fun wx hSw => ?_) ?_
      rotate_left
      · obtain ⟨u0, u1, u2⟩ := hSw
        go_simp
        try with_reducible rfl
      try simp only [Act.put, List.getElem_toArray, List.getElem_cons_succ, List.getElem_cons_zero, List.setIfInBounds_toArray, List.set_cons_zero, List.set_cons_succ]
      refine heads_step (v := ?_) rfl (by rfl) (fun wx hSw => ?_) ?_
      rotate_left
      · obtain ⟨u0, u1, u2⟩ := hSw
        go_simp
        try with_reducible rfl
      try simp only [Act.put, List.getElem_toArray, List.getElem_cons_succ, List.getElem_cons_zero, List.setIfInBounds_toArray, List.set_cons_zero, List.set_cons_succ]
      refine heads_step (v := ?_) rfl (by rfl) (fun wx hSw => ?_) ?_
      rotate_left
      · obtain ⟨u0, u1, u2⟩ := hSw
        go_simp
        try with_reducible rfl
      try simp only [Act.put, List.getElem_toArray, List.getElem_cons_succ, List.getElem_cons_zero, List.setIfInBounds_toArray, List.set_cons_zero, List.set_cons_succ]
      refine heads_step (v := ?_) rfl (by rfl) (fun wx hSw => ?_) ?_
      rotate_left
      · obtain ⟨u0, u1, u2⟩ := hSw
        go_simp
        try with_reducible rfl
      try simp only [Act.put, List.getElem_toArray, List.getElem_cons_succ, List.getElem_cons_zero, List.setIfInBounds_toArray, List.set_cons_zero, List.set_cons_succ]
      refine heads_step (v := ?_) rfl (by rfl) (fun wx hSw => ?_) ?_
      rotate_left
      · obtain ⟨u0, u1, u2⟩ := hSw
        go_simp
        try with_reducible rfl
      try simp only [Act.put, List.getElem_toArray, List.getElem_cons_succ, List.getElem_cons_zero, List.setIfInBounds_toArray, List.set_cons_zero, List.set_cons_succ]
      refine heads_step (v := ?_) rfl (by rfl) (fun wx hSw => ?_) ?_
      rotate_left
      · obtain ⟨u0, u1, u2⟩ := hSw
        go_simp
        try with_reducible rfl
      try simp only [Act.put, List.getElem_toArray, List.getElem_cons_succ, List.getElem_cons_zero, List.setIfInBounds_toArray, List.set_cons_zero, List.set_cons_succ]
      refine heads_step (v := ?_) rfl (by rfl) (fun wx hSw => ?_) ?_
      rotate_left
      · obtain ⟨u0, u1, u2⟩ := hSw
        go_simp
        try with_reducible rfl
      try simp only [Act.put, List.getElem_toArray, List.getElem_cons_succ, List.getElem_cons_zero, List.setIfInBounds_toArray, List.set_cons_zero, List.set_cons_succ]
      refine heads_step (v := ?_) rfl (by rfl) (fun wx hSw => ?_) ?_
      rotate_left
      · obtain ⟨u0, u1, u2⟩ := hSw
        go_simp
        try with_reducible rfl
      try simp only [Act.put, List.getElem_toArray, List.getElem_cons_succ, List.getElem_cons_zero, List.setIfInBounds_toArray, List.set_cons_zero, List.set_cons_succ]
      refine heads_step (v := ?_) rfl (by rfl) (fun wx hSw => ?_) ?_
      rotate_left
      · obtain ⟨u0, u1, u2⟩ := hSw
        go_simp
        try with_reducible rfl
      try simp only [Act.put, List.getElem_toArray, List.getElem_cons_succ, List.getElem_cons_zero, List.setIfInBounds_toArray, List.set_cons_zero, List.set_cons_succ]
      refine heads_step (v := ?_) rfl (by rfl) (fun wx hSw => ?_) ?_
      rotate_left
      · obtain ⟨u0, u1, u2⟩ := hSw
        go_simp
        try with_reducible rfl
      try simp only [Act.put, List.getElem_toArray, List.getElem_cons_succ, List.getElem_cons_zero, List.setIfInBounds_toArray, List.set_cons_zero, List.set_cons_succ]
      refine heads_step (v := ?_) rfl (by rfl) (fun wx hSw => ?_) ?_
      rotate_left
      · obtain ⟨u0, u1, u2⟩ := hSw
        go_simp
        try with_reducible rfl
      try simp only [Act.put, List.getElem_toArray, List.getElem_cons_succ, List.getElem_cons_zero, List.setIfInBounds_toArray, List.set_cons_zero, List.set_cons_succ]
      refine heads_step (v := ?_) rfl (by rfl) (fun wx hSw => ?_) ?_
      rotate_left
      · obtain ⟨u0, u1, u2⟩ := hSw
        go_simp
        try with_reducible rfl
      try simp only [Act.put, List.getElem_toArray, List.getElem_cons_succ, List.getElem_cons_zero, List.setIfInBounds_toArray, List.set_cons_zero, List.set_cons_succ]
      refine heads_step (v := ?_) rfl (by rfl) (fun wx hSw => ?_) ?_
      rotate_left
      · obtain ⟨u0, u1, u2⟩ := hSw
        go_simp
        try with_reducible rfl
      try simp only [Act.put, List.getElem_toArray, List.getElem_cons_succ, List.getElem_cons_zero, List.setIfInBounds_toArray, List.set_cons_zero, List.set_cons_succ]
      refine heads_step (v := ?_) rfl (by rfl) (fun wx hSw => ?_) ?_
      rotate_left
      · obtain ⟨u0, u1, u2⟩ := hSw
        go_simp
        try with_reducible rfl
      try simp only [Act.put, List.getElem_toArray, List.getElem_cons_succ, List.getElem_cons_zero, List.setIfInBounds_toArray, List.set_cons_zero, List.set_cons_succ]
      refine heads_step (v := ?_) rfl (by rfl) (fun wx hSw => ?_) ?_
      rotate_left
      · obtain ⟨u0, u1, u2⟩ := hSw
        go_simp
        try with_reducible rfl
      try simp only [Act.put, List.getElem_toArray, List.getElem_cons_succ, List.getElem_cons_zero, List.setIfInBounds_toArray, List.set_cons_zero, List.set_cons_succ]
      refine heads_step (v := ?_) rfl (by rfl) (fun wx hSw => ?_) ?_
      rotate_left
      · obtain ⟨u0, u1, u2⟩ := hSw
        go_simp
        try with_reducible rfl
      try simp only [Act.put, List.getElem_toArray, List.getElem_cons_succ, List.getElem_cons_zero, List.setIfInBounds_toArray, List.set_cons_zero, List.set_cons_succ]
      refine heads_step (v := ?_) rfl (by rfl) (fun wx hSw => ?_) ?_
      rotate_left
      · obtain ⟨u0, u1, u2⟩ := hSw
        go_simp
        try with_reducible rfl
      try simp only [Act.put, List.getElem_toArray, List.getElem_cons_succ, List.getElem_cons_zero, List.setIfInBounds_toArray, List.set_cons_zero, List.set_cons_succ]
      refine heads_end ?_
      have HCM := Lib.hid (show b.cm = (⟨floatOfInt .f64 b.line, 4607182418800017408, b.name, b.text, b.file⟩ : CM) by unfold BM.cm; rw [HX.out]; rfl)
      refine tail_plain rfl rfl (fun K hK => ?_)
      try simp only [List.getElem_toArray, List.getElem_cons_succ, List.getElem_cons_zero]
      refine wp_build_all (.tmp 49) (.tmp 54) (.tmp 59) (.tmp 62) rfl rfl rfl rfl rfl ?_
      refine hK _ _ ⟨fun _ => HS.out _ HV0.out, ?_⟩
      clear hK K
      try simp only [Act.put, List.setIfInBounds_toArray, List.set_cons_zero, List.set_cons_succ]
      refine tail_plain rfl rfl (fun K hK => ?_)
      try simp only [List.getElem_toArray, List.getElem_cons_succ, List.getElem_cons_zero]
      refine wp_lit_one (.tmp 63) rfl (c := (⟨floatOfInt .f64 b.line, 4607182418800017408, b.name, b.text, b.file⟩ : CM)) rfl ?_
      intro W1 g1 hg1 hown1 hb1
      have HW1 := Lib.hid (show Below wr.heap.size wr W1 from HV0.out.trans hb1)
      refine hK _ _ ⟨fun _ => HS.out _ HW1.out, ?_⟩
      have HO1 := Lib.hid (HJ.out.own.below HW1.out)
      have HR1 := Lib.hid (show RawAt W1 (some ⟨g1, 0, none⟩) (cmV [(⟨floatOfInt .f64 b.line, 4607182418800017408, b.name, b.text, b.file⟩ : CM)]) by
        obtain ⟨A, c, e, h⟩ := hown1.raw
        injection e with e
        subst e
        exact h)
      clear hg1 hown1 hb1 hK K
      try simp only [Act.put, List.setIfInBounds_toArray, List.set_cons_zero, List.set_cons_succ]
      refine tail_plain rfl rfl (fun K hK => ?_)
      try simp only [List.getElem_toArray, List.getElem_cons_succ, List.getElem_cons_zero]
      refine wp_append_cmd 65 [(⟨floatOfInt .f64 b.line, 4607182418800017408, b.name, b.text, b.file⟩ : CM)] HO1.out HR1.out rfl rfl rfl (by have := HTF.out; simp only [List.length_map, List.length_take, List.length_cons, List.length_nil]; omega) (by have := HJ.out.bel.size; have := HW1.out.size; omega) ?_
      intro v2 W2 hown2 ht2 hk2
      have HW2 := Lib.hid (show Below w.heap.size w W2 from (HJ.out.bel.trans (HW1.out.mono HJ.out.bel.size)).trans (ht2.below (by have := HJ.out.bel.size; have := HW1.out.size; omega) fun k hk => (World.ownsRow.lt HJ.out.own k hk).1))
      obtain ⟨m1, hm1⟩ : ∃ m1, m1 = m + 1 := ⟨_, rfl⟩
      have hadd : IntKind.i64.wrap ((m : Int) + 1) = (m1 : Int) := by have := HTF.out; rw [IntWalk.i64_in _ (by omega)]; omega
      have HN := Lib.hid (show CdJ l w W2 m1 v2 by rw [hm1]; exact HJ.out.put HBE.out HTF.out.1 HTF.out.2.1 HTF.out.2.2 (by rw [HCM.out]; exact hown2) HW2.out)
      refine hK _ _ ⟨fun h => by simp at h, ?_⟩
      have HM1 := Lib.hid (And.intro hm1 HTF.out)
      have hmm : m ≤ 220 := by have := HTF.out; omega
      clear hown2 ht2 hk2 hK K hm1
      try simp only [Act.put, List.setIfInBounds_toArray, List.set_cons_zero, List.set_cons_succ]
      refine tail_step rfl (fun K hK => ?_)
      go_simp
      refine hK _ _ ⟨fun h => by simp at h, ?_⟩
      clear hK K
      try simp only [Act.put, List.getElem_toArray, List.getElem_cons_succ, List.getElem_cons_zero, List.setIfInBounds_toArray, List.set_cons_zero, List.set_cons_succ]
      refine tail_end ?_
      go_wp2_with fail
      go_roundw
      case rel => exact ⟨m1, v2, rfl, rfl, HN⟩
      case measure => have := HM1.out; simp [intOf]; omega
end Go.Proofs.Ythlkmlphbepnpaa

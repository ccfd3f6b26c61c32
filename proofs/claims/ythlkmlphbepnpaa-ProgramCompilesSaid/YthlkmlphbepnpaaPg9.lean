/-
  Package program's Compile, walked. Condition: texts of at most a million bytes.
-/
import Derived.Test.YthlkmlphbepnpaaPg8
namespace Go.Proofs.Ythlkmlphbepnpaa
open Go.RowKit Go.Deep

theorem exec_load_mid {P : Program} {o : Oper} {a : Act} {w : World} (ty : TypeId) (x : Operand) (ho : o.op = .load ty x) (b f : Nat) (hx : a.eval x = .pointer (some ⟨b, f, none⟩)) (cs : List Value) (d : TypeDesc) (hc : w.rangeAt b f cs)
    (hu : P.underlying ty = some d) (hd : d.isRow = true) (hi : (P.info? ty).map (·.size) = some cs.length) : (execOp a.eval o).run P w = .ok (.value (.agg cs.toArray)) w := by
  unfold execOp
  simp only [ho, hx, Instr.loadAt, Instr.sureAddr, Sem.run_bind, Sem.run_pure, Result.andThen_ok, run_loadVar_mid w b f ty cs d hc hu hd hi]
theorem wp_build_ins {o : Oper} {a : Act} {w : World} {K : Act → World → Prop} {Q : Exit → Act → World → Prop} {c : CM} {j : Int} (x y : Operand) (ho : o.op = .build 53 #[(0, x), (1, y)]) (hx : a.eval x = c.v) (hy : a.eval y = .int .i64 j)
    (h : K (a.put o.dst (.agg (IM.cells (c, j)).toArray)) w) : o.wp Try.prog a w K Q := by
  have hb : Try.prog.built 53 ((#[(0, x), (1, y)] : Array (Nat × Operand)).map fun (i, x) => (i, a.eval x)).toList = some (IM.cells (c, j)).toArray := by
    simp only [List.map_toArray, List.map_cons, List.map_nil, hx, hy]
    exact build_ins c j
  refine wp_build 53 _ ho (by rw [hb]; rfl) ?_
  rw [hb]
  exact h
set_option maxRecDepth 100000 in
set_option maxHeartbeats 8000000 in
theorem compile_is {l : List CM} {cl : Nat} {A : Option Addr} {w : World} (hr : RawAt w A (cmV l)) (ht : ∀ c ∈ l, c.text.size ≤ 1048576) :
    Calls Try.prog 10 #[.slice A l.length cl] w (CompAns l w) := by


  unfold CompAns
  by_cases h200 : 200 < l.length
  case pos =>
    have g1 : decide ((200 : Int) < (l.length : Int)) = true := decide_eq_true (by omega)
    have g1n : decide (200 < l.length) = true := decide_eq_true h200
    have HL := Lib.hid h200
    clear hr ht
    go_enter Try.func10, Try.ntmps10
    go_wp2_with fail
    refine bodyPost_ret (v := .tuple #[.slice none 0 0, .complex .f64 0 0, .int .i64 143]) (by simp [results, Try.results10, go_sem]) rfl ⟨Below.refl _ _, .inl ⟨HL.out, rfl⟩⟩
  case neg =>
  have hl : l.length ≤ 200 := by omega
  have g1 : decide ((200 : Int) < (l.length : Int)) = false := decide_eq_false (by omega)
  have g1n : decide (200 < l.length) = false := decide_eq_false h200
  have HL := Lib.hid hl
  have HT := Lib.hid ht
  have hm1 := make_jumps l.length hl w
  obtain ⟨wj, hwj⟩ : ∃ wj, wj = w.alloc (.cells (jc l.length fun _ => 0) 3) := ⟨_, rfl⟩
  rw [← hwj] at hm1
  obtain ⟨gj, hgj⟩ : ∃ gj, gj = w.heap.size := ⟨_, rfl⟩
  rw [← hgj] at hm1
  have HJ := Lib.hid (show JAt wj gj l.length fun _ => 0 by rw [hwj, hgj]; exact heap_alloc_new w _)
  have HB := Lib.hid (show Below w.heap.size w wj by rw [hwj]; exact bW w _)
  have HR0 := Lib.hid (show RawOff (fun k => k = gj) w A (cmV l) by
    rcases hr with h | ⟨g, o, e, h⟩
    · exact .inl h
    · by_cases h0 : cmV l = []
      · exact .inl h0
      · refine .inr ⟨g, o, e, fun he => ?_, h⟩
        have h1 : 0 < (cmV l).length := by
          rcases Nat.eq_zero_or_pos (cmV l).length with h2 | h2
          · exact absurd (List.eq_nil_of_length_eq_zero h2) h0
          · exact h2
        have := World.block_lt_of_cell? _ _ (h 0 _ (List.getElem?_eq_getElem h1))
        simp only at this
        omega)
  have HR := Lib.hid (show RawOff (fun k => k = gj) wj A (cmV l) from HR0.out.turned (Turned.of_below HB.out))
  have HG := Lib.hid (show w.heap.size ≤ gj by omega)
  have HC1 := Lib.hid (braces_is (cj := l.length) (cl := cl) HJ.out HR.out (by omega))
  clear hr ht hwj hgj h200 hl
  go_enter Try.func10, Try.ntmps10
  go_wp2_with fail
  go_at_call 18
  with_reducible refine HC1.out.mono ?_
  rintro e w1 ⟨r, J, hcb, rfl, htu, hja, hjb⟩
  have HR1 := Lib.hid (HR.out.turned htu)
  have HB1 := Lib.hid (show Below w.heap.size w w1 from HB.out.trans (htu.below HB.out.size fun k hk => by have := HG.out; omega))
  have HCB := Lib.hid hcb
  have HJA := Lib.hid hja
  clear htu hja HC1 hm1
  cases r with
  | some i =>
    have hil := hcb.lt
    obtain ⟨c, hc⟩ : ∃ c, l[i]? = some c := ⟨l[i], by simp [hil]⟩
    obtain ⟨g, o, rfl, _, hcells⟩ := off_elem CM.len (by omega) HR1.out hc
    have hpl := hcells 0 _ rfl
    rw [Nat.add_zero] at hpl
    have hii : (i : Int) < (l.length : Int) := by omega
    have gm : ((i : Int) != -1) = true := by rw [bne_iff_ne]; omega
    have gm2 : ((i : Int) == -1) = false := by rw [beq_eq_false_iff_ne]; omega
    have HC := Lib.hid hc
    clear hcb hc hcells hjb
    unfold wrongV
    go_wp2_with fail
    go_quiet (fail)
    go_wp2_with fail
    refine bodyPost_ret (v := .tuple #[.slice none 0 0, .complex .f64 c.re c.im, .int .i64 142]) (by simp [results, Try.results10, go_sem]) rfl ⟨⟨HB1.out.os, HB1.out.tape, HB1.out.output, HB1.out.size, HB1.out.block⟩, .inr (.inl ⟨HL.out, i, c, HC.out, HCB.out, rfl⟩)⟩
  | none =>
    unfold wrongV
    have HJB := Lib.hid (hjb rfl)
    have HC2 := Lib.hid (labels_is (cj := l.length) (cl := cl) HJA.out HR1.out (by have := HL.out; omega) HT.out)
    clear hcb hjb
    go_wp2_with fail
    go_at_call 19
    with_reducible refine HC2.out.mono ?_
    rintro e w2 ⟨r, J2, hlb, rfl, htu, hja, hjl⟩
    have HR2 := Lib.hid (HR1.out.turned htu)
    have HB2 := Lib.hid (show Below w.heap.size w w2 from HB1.out.trans (htu.below HB1.out.size fun k hk => by have := HG.out; omega))
    have HLB := Lib.hid hlb
    have HJA2 := Lib.hid hja
    clear htu hja HC2
    cases r with
    | some i =>
      have hil := hlb.lt
      obtain ⟨c, hc⟩ : ∃ c, l[i]? = some c := ⟨l[i], by simp [hil]⟩
      obtain ⟨g, o, rfl, _, hcells⟩ := off_elem CM.len (by omega) HR2.out hc
      have hpl := hcells 0 _ rfl
      rw [Nat.add_zero] at hpl
      have hii : (i : Int) < (l.length : Int) := by omega
      have gm : ((i : Int) != -1) = true := by rw [bne_iff_ne]; omega
      have gm2 : ((i : Int) == -1) = false := by rw [beq_eq_false_iff_ne]; omega
      have HC := Lib.hid hc
      clear hlb hc hcells hjl
      unfold wrongV
      go_wp2_with fail
      go_quiet (fail)
      go_wp2_with fail
      refine bodyPost_ret (v := .tuple #[.slice none 0 0, .complex .f64 c.re c.im, .int .i64 141]) (by simp [results, Try.results10, go_sem]) rfl ⟨⟨HB2.out.os, HB2.out.tape, HB2.out.output, HB2.out.size, HB2.out.block⟩, .inr (.inr (.inl ⟨HL.out, HCB.out, i, c, HC.out, HLB.out, rfl⟩))⟩
    | none =>
      have HJS := Lib.hid (show Jumps (cN l) (cT l) l.length J2 by
        cases HCB.out with
        | ok h => cases HLB.out with
          | ok h2 _ => exact Jumps.make h h2 HJB.out (hjl rfl))
      obtain ⟨Cz, hCz, hmi⟩ := make_ins l.length HL.out w2
      obtain ⟨w3, hw3⟩ : ∃ w3, w3 = w2.alloc (.cells Cz 53) := ⟨_, rfl⟩
      obtain ⟨gp, hgp⟩ : ∃ gp, gp = w2.heap.size := ⟨_, rfl⟩
      have HS := Lib.hid (show PrJ l J2 gj gp w w3 0 by
        have h1 := lt_of_some HJA2.out
        rw [hw3, hgp]
        refine ⟨Nat.zero_le _, HJA2.out.stays (bW w2 _), ⟨Cz, heap_alloc_new w2 _, hCz⟩, fun j v hv => ?_, HB2.out.trans ((bW w2 _).mono HB2.out.size), HB2.out.size, by omega⟩
        simp [ims, imV] at hv)
      rw [← hw3, ← hgp] at hmi
      clear hlb hjl hCz hw3 hgp
      unfold wrongV
      go_wp2_with fail
      clear hmi
      go_loopw [9, 10, 42] (fun _ _ v wz => ∃ m : Nat, v = .int .i64 (m : Int) ∧ Hid (PrJ l J2 gj gp w wz m)) (fun _ _ v _ => l.length + 1 - (intOf v).toNat)
      case atStart => exact ⟨0, rfl, HS⟩
      case round =>
        clear HS
        obtain ⟨m, rfl, HJ⟩ := hrel
        have hle := HJ.out.le
        by_cases hm : m < l.length
        case neg =>
          have hd : decide ((m : Int) < (l.length : Int)) = false := decide_eq_false (by omega)
          have hdn : decide (m < l.length) = false := decide_eq_false hm
          have hll : (l.length : Int) ≤ (m : Int) := by omega
          have HD := Lib.hid (show wr.rangeAt gp 0 (imV (ims l J2 l.length)) by have := HJ.out.done; rwa [show m = l.length by omega] at this)
          clear hle hm
          go_wp2_with fail
          refine bodyPost_ret (v := .tuple #[.slice (some ⟨gp, 0, none⟩) l.length l.length, .complex .f64 0 0, .int .i64 0]) (by simp [results, Try.results10, go_sem]) rfl ⟨HJ.out.bel, .inr (.inr (.inr ⟨HL.out, J2, gp, HJS.out, HJ.out.bigp, HD.out, rfl⟩))⟩
        obtain ⟨c, hc⟩ : ∃ c, l[m]? = some c := ⟨l[m], by simp [hm]⟩
        obtain ⟨g, o, rfl, hgl, hcells⟩ := row_elem HR0.out (Turned.of_below HJ.out.bel) hc
        have hli : (m : Int) < (l.length : Int) := by omega
        have hd : decide ((m : Int) < (l.length : Int)) = true := decide_eq_true hli
        have hdn : decide (m < l.length) = true := decide_eq_true hm
        have hml : m ≤ 200 := by have := HL.out; omega
        have hadd : IntKind.i64.wrap ((m : Int) + 1) = ((m + 1 : Nat) : Int) := by rw [IntWalk.i64_in _ (by omega)]; omega
        obtain ⟨m1, hm1⟩ : ∃ m1, m1 = m + 1 := ⟨_, rfl⟩
        rw [← hm1] at hadd
        have HM := Lib.hid hm1
        have HC := Lib.hid hc
        have HCE := Lib.hid hcells
        have HLT := Lib.hid hm
        clear hle hm1 hc hcells
        go_wp2_with (first | (refine wpList_load_cmd rfl (.tmp 45) rfl rfl HCE.out ?_) | (refine wpList_alloc_cmd rfl rfl ?_; intro Z hZ; have HZ := Lib.hid hZ; clear hZ) | (refine wpList_box_cmd rfl (.tmp 10) (.tmp 46) rfl rfl rfl HZ.out ?_))
        intro W hW hbW hsW
        have HJW := Lib.hid (HJ.out.stays hbW)
        obtain ⟨p, hp⟩ : ∃ p, p = wr.heap.size := ⟨_, rfl⟩
        rw [← hp] at hW hsW ⊢
        have HS := Lib.hid fun (V : World) (hV : Below W.heap.size W V) => (show V.rangeAt p 0 c.cells ∧ V.cell? ⟨gj, m, none⟩ = some (.int .i64 (J2 m)) from
          ⟨fun j v hv => by
            rw [Nat.zero_add, obj_cell (Below.obj hV hW (lt_of_some hW))]
            simpa using hv, ((HJW.out.stays hV).jat.cell HLT.out).1⟩)
        clear hW hbW hp hsW hd hdn
        go_wp2_with fail
        have hV0 : Below W.heap.size W W.drew := (Below.refl W.heap.size W).drew
        have HV0 := Lib.hid hV0
        have HCO := Lib.hid (copy_cmd c)
        clear hV0
        refine wp_region_heads (fun wx => wx.rangeAt p 0 c.cells ∧ wx.cell? ⟨gj, m, none⟩ = some (.int .i64 (J2 m))) [0, 1, 2, 4, 5, 6, 7] [3, 8, 9, 10] [10] (by kernel_rfl) (by kernel_rfl) (by kernel_rfl) (fun c a d v wq h => hq_body (P := Try.prog) (fn := Try.f10) (R := CompAns l w) c a d v wq h) (by kernel_rfl) (HS.out _ HV0.out) ?_
        refine heads_step (v := ?_) rfl (by rfl) (fun wx hSw => ?_) ?_
        rotate_left
        · obtain ⟨u0, u1⟩ := hSw
          go_simp
          try with_reducible rfl
        simp only [Act.put, List.setIfInBounds_toArray]
        refine heads_step (v := ?_) rfl (by rfl) (fun wx hSw => ?_) ?_
        rotate_left
        · obtain ⟨u0, u1⟩ := hSw
          go_simp
          try with_reducible rfl
        simp only [Act.put]
        refine heads_step (v := c.v) rfl (by rfl) (fun wx hSw => exec_load_mid 51 (.tmp 10) rfl p 0 rfl c.cells _ hSw.1 Try.underlying51 rfl size_cmd) ?_
        simp only [Act.put]
        refine heads_step (v := ?_) rfl (by rfl) (fun wx hSw => ?_) ?_
        rotate_left
        · obtain ⟨u0, u1⟩ := hSw
          go_simp
          try with_reducible rfl
        simp only [Act.put]
        refine heads_step (v := ?_) rfl (by rfl) (fun wx hSw => ?_) ?_
        rotate_left
        · obtain ⟨u0, u1⟩ := hSw
          go_simp
          try with_reducible rfl
        simp only [Act.put]
        refine heads_step (v := ?_) rfl (by rfl) (fun wx hSw => ?_) ?_
        rotate_left
        · obtain ⟨u0, u1⟩ := hSw
          go_simp
          try with_reducible rfl
        simp only [Act.put]
        refine heads_step (v := ?_) rfl (by rfl) (fun wx hSw => ?_) ?_
        rotate_left
        · obtain ⟨u0, u1⟩ := hSw
          go_simp
          try with_reducible rfl
        simp only [Act.put]
        refine heads_end ?_
        refine tail_step rfl (fun K hK => ?_)
        go_simp
        refine (HCO.out _).mono ?_
        rintro e w5 ⟨rfl, hb5⟩
        have HW5 := Lib.hid (HV0.out.trans (hb5.mono HV0.out.size))
        refine hK _ _ ⟨fun _ => HS.out _ HW5.out, ?_⟩
        clear hb5 hK K
        try simp only [Act.put, List.setIfInBounds_toArray, List.set_cons_zero, List.set_cons_succ]
        refine tail_step rfl (fun K hK => ?_)
        rw [if_pos (by rfl)]
        refine wp_build_ins (.tmp 50) (.tmp 54) rfl rfl rfl ?_
        refine hK _ _ ⟨fun _ => HS.out _ HW5.out, ?_⟩
        clear hK K
        try simp only [Act.put, List.setIfInBounds_toArray]
        refine tail_step rfl (fun K hK => ?_)
        go_simp
        refine hK _ _ ⟨fun _ => HS.out _ HW5.out, ?_⟩
        clear hK K
        try simp only [Act.put, List.setIfInBounds_toArray, List.set_cons_zero, List.set_cons_succ]
        have HP5 := Lib.hid (HJW.out.stays HW5.out)
        have HN := Lib.hid (show PrJ l J2 gj gp w (w5.setCells gp (m * 43) (IM.cells (c, J2 m))) m1 by rw [HM.out]; exact HP5.out.put HC.out)
        obtain ⟨w6, hw6⟩ : ∃ w6, w6 = w5.setCells gp (m * 43) (IM.cells (c, J2 m)) := ⟨_, rfl⟩
        rw [← hw6] at HN
        refine tail_step rfl (fun K hK => ?_)
        rw [if_pos (by rfl)]
        refine wp_store_mid 53 (.tmp 56) (.tmp 55) rfl gp (m * 43) (IM.cells (c, J2 m)).toArray rfl rfl (HP5.out.there HLT.out) size_ins (all_oneCell_toArray fun v hv => ?_) ?_
        · rcases List.mem_append.1 hv with hv | hv
          · exact oneCell_cm c v hv
          · simp only [List.mem_singleton] at hv
            subst hv
            rfl
        rw [← hw6]
        refine hK _ _ ⟨fun h => by simp at h, ?_⟩
        clear hK K hw6
        try simp only [Act.put, List.setIfInBounds_toArray]
        refine tail_end ?_
        go_wp2_with fail
        go_roundw
        case rel => exact ⟨m1, rfl, HN⟩
        case measure => have := HM.out; have := HLT.out; simp [intOf]; omega
end Go.Proofs.Ythlkmlphbepnpaa

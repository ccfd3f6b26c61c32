/-
  The document's Compile, walked. Condition: texts in memory.
-/
import Derived.Test.YthlkmlphbepnpaaPg25
namespace Go.Proofs.Ythlkmlphbepnpaa
open Go.RowKit Go.Deep

/-- What the document's Compile answers. -/
def DocAns (l : List CM) (w : World) (e : Ending) (w' : World) : Prop := Below w.heap.size w w' ∧ ∃ re im x, FauR l re im x ∧
  ((x ≠ 0 ∧ e = .returned (.tuple #[.slice none 0 0, .complex .f64 re im, .int .i64 x])) ∨
   (x = 0 ∧ ∃ J v, (∀ i, i < l.length → JOk l i (J i)) ∧ OwnI w' w.heap.size v (ims l J l.length) ∧ e = .returned (.tuple #[v, .complex .f64 0 0, .int .i64 0])))
/-- The document's program so far. -/
structure DoJ (l : List CM) (w wr : World) (m : Nat) (J : Nat → Int) (v : Value) : Prop where
  le : m ≤ l.length
  jok : ∀ i, i < m → JOk l i (J i)
  own : OwnI wr w.heap.size v (ims l J m)
  bel : Below w.heap.size w wr
theorem DoJ.put {l : List CM} {w wr W : World} {m : Nat} {J : Nat → Int} {v v' : Value} (h : DoJ l w wr m J v) {c : CM} (hc : l[m]? = some c) {j : Int} (hj : JOk l m j) (hown : OwnI W w.heap.size v' (ims l J m ++ [(c, j)])) (hb : Below w.heap.size w W) :
    DoJ l w W (m + 1) (fun i => if i = m then j else J i) v' := by
  have hlt := (List.getElem?_eq_some_iff.1 hc).1
  refine ⟨hlt, fun i hi => ?_, ?_, hb⟩
  · by_cases he : i = m
    · subst he
      simp only [if_pos]
      exact hj
    · simp only [if_neg he]
      exact h.jok i (by omega)
  · rw [ims_succ, ims_congr (K := J) (fun i hi => by rw [if_neg (by omega)]), imAt_of hc]
    simpa using hown
theorem own_ne {w : World} {B : Nat} {v : Value} {cs : List IM} (h : OwnI w B v cs) : ∀ k, v.ownBlock = some k → B ≤ k := by
  intro k hk
  apply Nat.le_of_not_lt
  intro hlt
  exact row_ne_low h hlt hk.symm
theorem text_neq {t : ByteArray} (h : t = ⟨#[]⟩) : (t.toList == ([] : List UInt8)) = true := by subst h; simp [ByteArray.toList_eq]
set_option maxRecDepth 100000 in
set_option maxHeartbeats 8000000 in
theorem doc_is {l : List CM} {cl : Nat} {A : Option Addr} {w : World} (hr : RawAt w A (cmV l)) :
    Calls Try.prog 11 #[.slice A l.length cl] w (DocAns l w) := by
  unfold DocAns
  have HFA := Lib.hid (fault_is (cl := cl) hr)
  have HRW := Lib.hid (show ∀ wr, Below w.heap.size w wr → RawAt wr A (cmV l) from fun wr hb => by
    rcases hr with h | ⟨g, o, e, h⟩
    · exact .inl h
    · refine .inr ⟨g, o, e, fun j v hv => ?_⟩
      rw [World.cell?_of_block (hb.block g (World.block_lt_of_cell? _ _ (h j v hv)))]
      exact h j v hv)
  clear hr
  go_enter Try.func11, Try.ntmps11
  go_wp2_with fail
  go_at_call 21
  with_reducible refine HFA.out.mono ?_
  rintro e w1 ⟨re, im, x, rfl, hf, rfl⟩
  have HF := Lib.hid hf
  clear hf HFA
  by_cases hx : x = 0
  case neg =>
    have g1 : (x != 0) = true := by rw [bne_iff_ne]; exact hx
    have g2 : (x == 0) = false := by rw [beq_eq_false_iff_ne]; exact hx
    have HX := Lib.hid hx
    clear hx
    go_wp2_with fail
    refine bodyPost_ret (v := .tuple #[.slice none 0 0, .complex .f64 re im, .int .i64 x]) (by simp [results, Try.results11, go_sem]) rfl ⟨Below.refl _ _, re, im, x, HF.out, .inl ⟨HX.out, rfl⟩⟩
  subst hx
  obtain ⟨hl, hcb, hlb⟩ : l.length ≤ 200 ∧ CB (cN l) l.length none ∧ LB (cN l) (cT l) l.length none := by
    rcases HF.out with ⟨_, _, _, h⟩ | ⟨_, i, c, _, _, _, _, h⟩ | ⟨_, _, i, c, _, _, _, _, h⟩ | ⟨h1, h2, h3, _⟩
    · omega
    · omega
    · omega
    · exact ⟨h1, h2, h3⟩
  have HL := Lib.hid hl
  have HSN := Lib.hid hcb.none_ok
  have HLB := Lib.hid hlb
  have HS := Lib.hid (show DoJ l w1 w1 0 (fun _ => 0) (.slice none 0 0) from ⟨Nat.zero_le _, fun i hi => absurd hi (Nat.not_lt_zero i), OwnI.nil _ _, Below.refl _ _⟩)
  clear hl hcb hlb
  go_wp2_with fail
  go_loopw [7, 8, 9] (fun rv kv _ wz => ∃ (m : Nat) (J : Nat → Int), kv = .int .i64 (m : Int) ∧ Hid (DoJ l w1 wz m J rv)) (fun _ kv _ _ => l.length + 1 - (intOf kv).toNat)
  case atStart => exact ⟨0, _, rfl, HS⟩
  case round =>
    clear HS
    obtain ⟨m, J, rfl, HJ⟩ := hrel
    have hle := HJ.out.le
    have hl := HL.out
    by_cases hm : m < l.length
    case neg =>
      have hd : decide ((m : Int) < (l.length : Int)) = false := decide_eq_false (by omega)
      have hdn : decide (m < l.length) = false := decide_eq_false hm
      have hll : (l.length : Int) ≤ (m : Int) := by omega
      have hml : m = l.length := by omega
      have HE := Lib.hid (show (∀ i, i < l.length → JOk l i (J i)) ∧ OwnI wr w1.heap.size u7 (ims l J l.length) from ⟨fun i hi => HJ.out.jok i (by omega), by have := HJ.out.own; rwa [hml] at this⟩)
      clear hle hm hl hml
      go_wp2_with fail
      refine bodyPost_ret (v := .tuple #[u7, .complex .f64 0 0, .int .i64 0]) (by simp [results, Try.results11, go_sem]) rfl ⟨HJ.out.bel, re, im, 0, HF.out, .inr ⟨rfl, J, u7, HE.out.1, HE.out.2, rfl⟩⟩
    obtain ⟨c, hc⟩ : ∃ c, l[m]? = some c := ⟨l[m], by simp [hm]⟩
    have HRR := Lib.hid (HRW.out wr HJ.out.bel)
    obtain ⟨g, o, rfl, hcells⟩ := raw_elem CM.len (by omega) HRR.out hc
    have hli : (m : Int) < (l.length : Int) := by omega
    have hd : decide ((m : Int) < (l.length : Int)) = true := decide_eq_true hli
    have hdn : decide (m < l.length) = true := decide_eq_true hm
    have hadd : IntKind.i64.wrap ((m : Int) + 1) = ((m + 1 : Nat) : Int) := by rw [IntWalk.i64_in _ (by omega)]; omega
    obtain ⟨m1, hm1⟩ : ∃ m1, m1 = m + 1 := ⟨_, rfl⟩
    rw [← hm1] at hadd
    have HM := Lib.hid (And.intro hm1 hm)
    have HC := Lib.hid hc
    have HCE := Lib.hid hcells
    have HGL := Lib.hid (World.block_lt_of_cell? _ _ (hcells 0 _ rfl))
    clear hle hm1 hc hcells hm hl
    go_wp2_with (first | (refine wpList_load_cmd rfl (.tmp 27) rfl rfl HCE.out ?_) | (refine wpList_build_ins0 rfl (.tmp 28) rfl rfl ?_) | (refine wpList_alloc_ins rfl rfl ?_; intro Z hZ; have HZ := Lib.hid hZ; clear hZ) | (refine wpList_box_ins rfl (.tmp 9) (.tmp 29) rfl rfl rfl HZ.out ?_))
    intro W hW hbW hsW
    have HWS := Lib.hid hsW
    have HBW := Lib.hid hbW
    obtain ⟨p, hp⟩ : ∃ p, p = wr.heap.size := ⟨_, rfl⟩
    rw [← hp] at hW ⊢
    have HP := Lib.hid (And.intro hp hsW)
    have HW := Lib.hid hW
    have HDW := Lib.hid (HJ.out.bel.trans (hbW.mono HJ.out.bel.size))
    have HRA := Lib.hid (HRW.out W HDW.out)
    obtain ⟨g', o', he, kN, kT, _⟩ := row_name HRA.out HC.out
    injection he with he
    injection he with e1 e2
    subst e1 e2
    have hnm := cN_at HC.out
    have htx := cT_at HC.out
    clear hW hbW hp hsW
    by_cases h1 : c.name = 123
    · have g1 : (c.name == 123) = true := by rw [h1]; rfl
      have HCL := Lib.hid (closed_is (cl := cl) HRA.out (by have := HL.out; omega) HM.out.2 (hnm.trans h1) HSN.out)
      have hnn := hnm.trans h1
      have HNN := Lib.hid hnn
      clear hnm htx hnn h1
      go_wp2_with fail
      go_at_call 22
      with_reducible refine HCL.out.mono ?_
      rintro e w2 ⟨r, rfl, hcr, hw2⟩
      subst w2
      have HJV := Lib.hid (show JOk l m r by
        refine ⟨fun _ => ?_, fun h => ?_, fun h => ?_, fun h => ?_⟩
        · rcases hcr with ⟨b, hb, hc, rfl⟩ | ⟨hno, _⟩
          · exact ⟨b, hb, hc, rfl⟩
          · obtain ⟨i, hi, hc⟩ := closes_ex HM.out.2 HNN.out HSN.out (List.not_mem_nil)
            exact absurd hc (hno i hi)
        · have := HNN.out; omega
        · have := HNN.out; omega
        · exact absurd HNN.out h)
      clear hcr HCL
      have HV := Lib.hid (box_jump (j := r) HW.out)
      have kz := (show W.cell? ⟨p, 42, none⟩ = some (.int .i64 0) by rw [obj_cell HW.out]; rfl)
      have kf := frozen_of_row W p 42 _ _ HW.out
      have HBV := Lib.hid (show Below wr.heap.size wr (W.setCell ⟨p, 42, none⟩ (.int .i64 r)) by
        have h1 := HBW.out
        have h2 := HP.out
        have hs := setCells_size p [.int .i64 r] 42 W
        refine ⟨hs.2.1.trans h1.os, hs.2.2.1.trans h1.tape, hs.2.2.2.trans h1.output, by have := hs.1; have := h1.size; simp only [World.setCells] at *; omega, fun k hk => ?_⟩
        rw [heap_setCell_other W _ k _ (by simp only; omega)]
        exact h1.block k hk)
      go_upto_region 17 with fail
      obtain ⟨V, hV⟩ : ∃ V, V = W.setCell ⟨p, 42, none⟩ (.int .i64 r) := ⟨_, rfl⟩
      rw [← hV] at HV HBV ⊢
      clear hV kz kf
      have HRG := Lib.hid (obj_range HV.out)
      have HOV := Lib.hid (HJ.out.own.below HBV.out)
      clear hd hdn
      go_wp2_with (first | (refine wpList_load_ins rfl (.tmp 9) rfl rfl HRG.out ?_) | (refine wpList_lit_ins rfl (.tmp 62) rfl (c := (c, r)) rfl ?_))
      intro V2 hr2 hb2 hs2
      have HR2 := Lib.hid hr2
      have HB2 := Lib.hid (HBV.out.trans (hb2.mono HBV.out.size))
      have HO2 := Lib.hid (HJ.out.own.below HB2.out)
      have HBE := Lib.hid (show w1.heap.size ≤ V2.heap.size by have := HB2.out.size; have := HJ.out.bel.size; omega)
      have HIL := Lib.hid (show (ims l J m).length + 1 ≤ 1073741824 by rw [ims_len]; have := HM.out; have := HL.out; omega)
      clear hr2 hb2 hs2
      go_wp2_with (refine wpList_append_ins 64 (c, r) HO2.out HR2.out rfl rfl HIL.out HBE.out ?_)
      intro v' W3 hown3 ht3 hk3
      have HN := Lib.hid (show DoJ l w1 W3 m1 (fun i => if i = m then r else J i) v' by
        rw [HM.out.1]
        refine HJ.out.put HC.out HJV.out hown3 ?_
        have hb := HJ.out.bel.trans (HB2.out.mono HJ.out.bel.size)
        exact hb.trans (ht3.below hb.size fun k hk => own_ne HJ.out.own k hk))
      clear hown3 ht3 hk3
      go_wp2_with fail
      go_roundw
      case rel => exact ⟨m1, _, rfl, HN⟩
      case measure => have := HM.out; simp [intOf] <;> omega
    · have g1 : (c.name == 123) = false := by rw [beq_eq_false_iff_ne]; exact h1
      by_cases h2 : c.name = 98 ∨ c.name = 116
      · have HNA := Lib.hid (And.intro (show cN l m ≠ 123 by rw [hnm]; exact h1) (show cN l m = 98 ∨ cN l m = 116 by rw [hnm]; exact h2))
        have g23 : ((c.name == 98) = true) ∨ ((c.name == 98) = false ∧ (c.name == 116) = true) := by
          rcases h2 with h | h
          · exact .inl (by rw [h]; rfl)
          · exact .inr ⟨by rw [h]; rfl, by rw [h]; rfl⟩
        have HTX := Lib.hid htx
        clear hnm htx h1 h2
        rcases g23 with g2 | ⟨g2, g3⟩
        · have HV := Lib.hid (box_jump (j := (l.length : Int)) HW.out)
          have kz := (show W.cell? ⟨p, 42, none⟩ = some (.int .i64 0) by rw [obj_cell HW.out]; rfl)
          have kf := frozen_of_row W p 42 _ _ HW.out
          have HBV := Lib.hid (show Below wr.heap.size wr (W.setCell ⟨p, 42, none⟩ (.int .i64 (l.length : Int))) by
            have h1 := HBW.out
            have h2 := HP.out
            have hs := setCells_size p [.int .i64 (l.length : Int)] 42 W
            refine ⟨hs.2.1.trans h1.os, hs.2.2.1.trans h1.tape, hs.2.2.2.trans h1.output, by have := hs.1; have := h1.size; simp only [World.setCells] at *; omega, fun k hk => ?_⟩
            rw [heap_setCell_other W _ k _ (by simp only; omega)]
            exact h1.block k hk)
          go_upto_region 15 with fail
          obtain ⟨V, hV⟩ : ∃ X, X = W.setCell ⟨p, 42, none⟩ (.int .i64 (l.length : Int)) := ⟨_, rfl⟩
          rw [← hV] at HV HBV ⊢
          clear hV kz kf
          have HRV := Lib.hid (HRW.out V (HJ.out.bel.trans (HBV.out.mono HJ.out.bel.size)))
          clear kN kT
          obtain ⟨g', o', he, kN, kT, _⟩ := row_name HRV.out HC.out
          injection he with he
          injection he with e1 e2
          subst e1 e2
          by_cases ht : c.text = ⟨#[]⟩
          · have HJV := Lib.hid (show JOk l m (l.length : Int) from ⟨fun h => absurd h HNA.out.1, fun _ _ => rfl, fun _ h => absurd (HTX.out.trans ht) h, fun _ h3 h4 => absurd HNA.out.2 (by rintro (h | h); exact h3 h; exact h4 h)⟩)
            have g4 : (c.text.toList == ([] : List UInt8)) = true := text_neq ht
            have g4e : c.text.toList.isEmpty = true := by rw [ht]; simp [ByteArray.toList_eq]
            clear ht
            have HRG := Lib.hid (obj_range HV.out)
            have HOV := Lib.hid (HJ.out.own.below HBV.out)
            clear hd hdn
            go_wp2_with (first | (refine wpList_load_ins rfl (.tmp 9) rfl rfl HRG.out ?_) | (refine wpList_lit_ins rfl (.tmp 62) rfl (c := (c, (l.length : Int))) rfl ?_))
            intro V2 hr2 hb2 hs2
            have HR2 := Lib.hid hr2
            have HB2 := Lib.hid (HBV.out.trans (hb2.mono HBV.out.size))
            have HO2 := Lib.hid (HJ.out.own.below HB2.out)
            have HBE := Lib.hid (show w1.heap.size ≤ V2.heap.size by have := HB2.out.size; have := HJ.out.bel.size; omega)
            have HIL := Lib.hid (show (ims l J m).length + 1 ≤ 1073741824 by rw [ims_len]; have := HM.out; have := HL.out; omega)
            clear hr2 hb2 hs2
            go_wp2_with (refine wpList_append_ins 64 (c, (l.length : Int)) HO2.out HR2.out rfl rfl HIL.out HBE.out ?_)
            intro v' W3 hown3 ht3 hk3
            have HN := Lib.hid (show DoJ l w1 W3 m1 (fun i => if i = m then (l.length : Int) else J i) v' by
              rw [HM.out.1]
              refine HJ.out.put HC.out HJV.out hown3 ?_
              have hb := HJ.out.bel.trans (HB2.out.mono HJ.out.bel.size)
              exact hb.trans (ht3.below hb.size fun k hk => own_ne HJ.out.own k hk))
            clear hown3 ht3 hk3
            go_wp2_with fail
            go_roundw
            case rel => exact ⟨m1, _, rfl, HN⟩
            case measure => have := HM.out; simp [intOf] <;> omega
          · have g4 := full_text ht
            have HTE := Lib.hid (show cT l m ≠ ⟨#[]⟩ by rw [HTX.out]; exact ht)
            have HLA := Lib.hid (label_is (cl := cl) c.text HRV.out (by have := HL.out; omega))
            clear ht
            go_wp2_with fail
            go_at_call 23
            with_reducible refine HLA.out.mono ?_
            rintro e w2 ⟨r, rfl, hcr, hw2⟩
            subst w2
            have HJV := Lib.hid (show JOk l m r by
              refine ⟨fun h => absurd h HNA.out.1, fun _ h => absurd h HTE.out, fun _ _ => ?_, fun _ h3 h4 => absurd HNA.out.2 (by rintro (h | h); exact h3 h; exact h4 h)⟩
              rcases hcr with ⟨k, hk, h58, hkt, rfl, _⟩ | ⟨hno, _⟩
              · exact ⟨k, hk, h58, hkt.trans HTX.out.symm, rfl⟩
              · cases HLB.out with
                | ok hd hall =>
                  obtain ⟨k, hk, h58, hkt⟩ := hall m HM.out.2 HNA.out.2 HTE.out
                  exact absurd (hkt.trans HTX.out) (hno k hk h58))
            clear hcr HLA
            have HV2 := Lib.hid (box_jump (j := r) HV.out)
            have kz := (show V.cell? ⟨p, 42, none⟩ = some (.int .i64 (l.length : Int)) by rw [obj_cell HV.out]; rfl)
            have kf := frozen_of_row V p 42 _ _ HV.out
            have HBV2 := Lib.hid (show Below wr.heap.size wr (V.setCell ⟨p, 42, none⟩ (.int .i64 r)) by
              have h1 := HBV.out
              have h2 := HP.out
              have hs := setCells_size p [.int .i64 r] 42 V
              refine ⟨hs.2.1.trans h1.os, hs.2.2.1.trans h1.tape, hs.2.2.2.trans h1.output, by have := hs.1; have := h1.size; simp only [World.setCells] at *; omega, fun k hk => ?_⟩
              rw [heap_setCell_other V _ k _ (by simp only; omega)]
              exact h1.block k hk)
            go_upto_region 17 with fail
            obtain ⟨V3, hV⟩ : ∃ X, X = V.setCell ⟨p, 42, none⟩ (.int .i64 r) := ⟨_, rfl⟩
            rw [← hV] at HV2 HBV2 ⊢
            clear hV kz kf
            have HRG := Lib.hid (obj_range HV2.out)
            have HOV := Lib.hid (HJ.out.own.below HBV2.out)
            clear hd hdn
            go_wp2_with (first | (refine wpList_load_ins rfl (.tmp 9) rfl rfl HRG.out ?_) | (refine wpList_lit_ins rfl (.tmp 62) rfl (c := (c, r)) rfl ?_))
            intro V2 hr2 hb2 hs2
            have HR2 := Lib.hid hr2
            have HB2 := Lib.hid (HBV2.out.trans (hb2.mono HBV2.out.size))
            have HO2 := Lib.hid (HJ.out.own.below HB2.out)
            have HBE := Lib.hid (show w1.heap.size ≤ V2.heap.size by have := HB2.out.size; have := HJ.out.bel.size; omega)
            have HIL := Lib.hid (show (ims l J m).length + 1 ≤ 1073741824 by rw [ims_len]; have := HM.out; have := HL.out; omega)
            clear hr2 hb2 hs2
            go_wp2_with (refine wpList_append_ins 64 (c, r) HO2.out HR2.out rfl rfl HIL.out HBE.out ?_)
            intro v' W3 hown3 ht3 hk3
            have HN := Lib.hid (show DoJ l w1 W3 m1 (fun i => if i = m then r else J i) v' by
              rw [HM.out.1]
              refine HJ.out.put HC.out HJV.out hown3 ?_
              have hb := HJ.out.bel.trans (HB2.out.mono HJ.out.bel.size)
              exact hb.trans (ht3.below hb.size fun k hk => own_ne HJ.out.own k hk))
            clear hown3 ht3 hk3
            go_wp2_with fail
            go_roundw
            case rel => exact ⟨m1, _, rfl, HN⟩
            case measure => have := HM.out; simp [intOf] <;> omega
        · have HV := Lib.hid (box_jump (j := (l.length : Int)) HW.out)
          have kz := (show W.cell? ⟨p, 42, none⟩ = some (.int .i64 0) by rw [obj_cell HW.out]; rfl)
          have kf := frozen_of_row W p 42 _ _ HW.out
          have HBV := Lib.hid (show Below wr.heap.size wr (W.setCell ⟨p, 42, none⟩ (.int .i64 (l.length : Int))) by
            have h1 := HBW.out
            have h2 := HP.out
            have hs := setCells_size p [.int .i64 (l.length : Int)] 42 W
            refine ⟨hs.2.1.trans h1.os, hs.2.2.1.trans h1.tape, hs.2.2.2.trans h1.output, by have := hs.1; have := h1.size; simp only [World.setCells] at *; omega, fun k hk => ?_⟩
            rw [heap_setCell_other W _ k _ (by simp only; omega)]
            exact h1.block k hk)
          go_upto_region 15 with fail
          obtain ⟨V, hV⟩ : ∃ X, X = W.setCell ⟨p, 42, none⟩ (.int .i64 (l.length : Int)) := ⟨_, rfl⟩
          rw [← hV] at HV HBV ⊢
          clear hV kz kf
          have HRV := Lib.hid (HRW.out V (HJ.out.bel.trans (HBV.out.mono HJ.out.bel.size)))
          clear kN kT
          obtain ⟨g', o', he, kN, kT, _⟩ := row_name HRV.out HC.out
          injection he with he
          injection he with e1 e2
          subst e1 e2
          by_cases ht : c.text = ⟨#[]⟩
          · have HJV := Lib.hid (show JOk l m (l.length : Int) from ⟨fun h => absurd h HNA.out.1, fun _ _ => rfl, fun _ h => absurd (HTX.out.trans ht) h, fun _ h3 h4 => absurd HNA.out.2 (by rintro (h | h); exact h3 h; exact h4 h)⟩)
            have g4 : (c.text.toList == ([] : List UInt8)) = true := text_neq ht
            have g4e : c.text.toList.isEmpty = true := by rw [ht]; simp [ByteArray.toList_eq]
            clear ht
            have HRG := Lib.hid (obj_range HV.out)
            have HOV := Lib.hid (HJ.out.own.below HBV.out)
            clear hd hdn
            go_wp2_with (first | (refine wpList_load_ins rfl (.tmp 9) rfl rfl HRG.out ?_) | (refine wpList_lit_ins rfl (.tmp 62) rfl (c := (c, (l.length : Int))) rfl ?_))
            intro V2 hr2 hb2 hs2
            have HR2 := Lib.hid hr2
            have HB2 := Lib.hid (HBV.out.trans (hb2.mono HBV.out.size))
            have HO2 := Lib.hid (HJ.out.own.below HB2.out)
            have HBE := Lib.hid (show w1.heap.size ≤ V2.heap.size by have := HB2.out.size; have := HJ.out.bel.size; omega)
            have HIL := Lib.hid (show (ims l J m).length + 1 ≤ 1073741824 by rw [ims_len]; have := HM.out; have := HL.out; omega)
            clear hr2 hb2 hs2
            go_wp2_with (refine wpList_append_ins 64 (c, (l.length : Int)) HO2.out HR2.out rfl rfl HIL.out HBE.out ?_)
            intro v' W3 hown3 ht3 hk3
            have HN := Lib.hid (show DoJ l w1 W3 m1 (fun i => if i = m then (l.length : Int) else J i) v' by
              rw [HM.out.1]
              refine HJ.out.put HC.out HJV.out hown3 ?_
              have hb := HJ.out.bel.trans (HB2.out.mono HJ.out.bel.size)
              exact hb.trans (ht3.below hb.size fun k hk => own_ne HJ.out.own k hk))
            clear hown3 ht3 hk3
            go_wp2_with fail
            go_roundw
            case rel => exact ⟨m1, _, rfl, HN⟩
            case measure => have := HM.out; simp [intOf] <;> omega
          · have g4 := full_text ht
            have HTE := Lib.hid (show cT l m ≠ ⟨#[]⟩ by rw [HTX.out]; exact ht)
            have HLA := Lib.hid (label_is (cl := cl) c.text HRV.out (by have := HL.out; omega))
            clear ht
            go_wp2_with fail
            go_at_call 23
            with_reducible refine HLA.out.mono ?_
            rintro e w2 ⟨r, rfl, hcr, hw2⟩
            subst w2
            have HJV := Lib.hid (show JOk l m r by
              refine ⟨fun h => absurd h HNA.out.1, fun _ h => absurd h HTE.out, fun _ _ => ?_, fun _ h3 h4 => absurd HNA.out.2 (by rintro (h | h); exact h3 h; exact h4 h)⟩
              rcases hcr with ⟨k, hk, h58, hkt, rfl, _⟩ | ⟨hno, _⟩
              · exact ⟨k, hk, h58, hkt.trans HTX.out.symm, rfl⟩
              · cases HLB.out with
                | ok hd hall =>
                  obtain ⟨k, hk, h58, hkt⟩ := hall m HM.out.2 HNA.out.2 HTE.out
                  exact absurd (hkt.trans HTX.out) (hno k hk h58))
            clear hcr HLA
            have HV2 := Lib.hid (box_jump (j := r) HV.out)
            have kz := (show V.cell? ⟨p, 42, none⟩ = some (.int .i64 (l.length : Int)) by rw [obj_cell HV.out]; rfl)
            have kf := frozen_of_row V p 42 _ _ HV.out
            have HBV2 := Lib.hid (show Below wr.heap.size wr (V.setCell ⟨p, 42, none⟩ (.int .i64 r)) by
              have h1 := HBV.out
              have h2 := HP.out
              have hs := setCells_size p [.int .i64 r] 42 V
              refine ⟨hs.2.1.trans h1.os, hs.2.2.1.trans h1.tape, hs.2.2.2.trans h1.output, by have := hs.1; have := h1.size; simp only [World.setCells] at *; omega, fun k hk => ?_⟩
              rw [heap_setCell_other V _ k _ (by simp only; omega)]
              exact h1.block k hk)
            go_upto_region 17 with fail
            obtain ⟨V3, hV⟩ : ∃ X, X = V.setCell ⟨p, 42, none⟩ (.int .i64 r) := ⟨_, rfl⟩
            rw [← hV] at HV2 HBV2 ⊢
            clear hV kz kf
            have HRG := Lib.hid (obj_range HV2.out)
            have HOV := Lib.hid (HJ.out.own.below HBV2.out)
            clear hd hdn
            go_wp2_with (first | (refine wpList_load_ins rfl (.tmp 9) rfl rfl HRG.out ?_) | (refine wpList_lit_ins rfl (.tmp 62) rfl (c := (c, r)) rfl ?_))
            intro V2 hr2 hb2 hs2
            have HR2 := Lib.hid hr2
            have HB2 := Lib.hid (HBV2.out.trans (hb2.mono HBV2.out.size))
            have HO2 := Lib.hid (HJ.out.own.below HB2.out)
            have HBE := Lib.hid (show w1.heap.size ≤ V2.heap.size by have := HB2.out.size; have := HJ.out.bel.size; omega)
            have HIL := Lib.hid (show (ims l J m).length + 1 ≤ 1073741824 by rw [ims_len]; have := HM.out; have := HL.out; omega)
            clear hr2 hb2 hs2
            go_wp2_with (refine wpList_append_ins 64 (c, r) HO2.out HR2.out rfl rfl HIL.out HBE.out ?_)
            intro v' W3 hown3 ht3 hk3
            have HN := Lib.hid (show DoJ l w1 W3 m1 (fun i => if i = m then r else J i) v' by
              rw [HM.out.1]
              refine HJ.out.put HC.out HJV.out hown3 ?_
              have hb := HJ.out.bel.trans (HB2.out.mono HJ.out.bel.size)
              exact hb.trans (ht3.below hb.size fun k hk => own_ne HJ.out.own k hk))
            clear hown3 ht3 hk3
            go_wp2_with fail
            go_roundw
            case rel => exact ⟨m1, _, rfl, HN⟩
            case measure => have := HM.out; simp [intOf] <;> omega
      · have g2 : (c.name == 98) = false := by rw [beq_eq_false_iff_ne]; exact fun h => h2 (.inl h)
        have g3 : (c.name == 116) = false := by rw [beq_eq_false_iff_ne]; exact fun h => h2 (.inr h)
        have HJV := Lib.hid (show JOk l m 0 from ⟨fun h => absurd (hnm.symm.trans h) h1, fun h => absurd (by rwa [hnm] at h) h2, fun h => absurd (by rwa [hnm] at h) h2, fun _ _ _ => rfl⟩)
        clear hnm htx h1 h2
        have HV := HW
        have HBV := HBW
        have HRG := Lib.hid (obj_range HV.out)
        have HOV := Lib.hid (HJ.out.own.below HBV.out)
        clear hd hdn
        go_wp2_with (first | (refine wpList_load_ins rfl (.tmp 9) rfl rfl HRG.out ?_) | (refine wpList_lit_ins rfl (.tmp 62) rfl (c := (c, 0)) rfl ?_))
        intro V2 hr2 hb2 hs2
        have HR2 := Lib.hid hr2
        have HB2 := Lib.hid (HBV.out.trans (hb2.mono HBV.out.size))
        have HO2 := Lib.hid (HJ.out.own.below HB2.out)
        have HBE := Lib.hid (show w1.heap.size ≤ V2.heap.size by have := HB2.out.size; have := HJ.out.bel.size; omega)
        have HIL := Lib.hid (show (ims l J m).length + 1 ≤ 1073741824 by rw [ims_len]; have := HM.out; have := HL.out; omega)
        clear hr2 hb2 hs2
        go_wp2_with (refine wpList_append_ins 64 (c, 0) HO2.out HR2.out rfl rfl HIL.out HBE.out ?_)
        intro v' W3 hown3 ht3 hk3
        have HN := Lib.hid (show DoJ l w1 W3 m1 (fun i => if i = m then 0 else J i) v' by
          rw [HM.out.1]
          refine HJ.out.put HC.out HJV.out hown3 ?_
          have hb := HJ.out.bel.trans (HB2.out.mono HJ.out.bel.size)
          exact hb.trans (ht3.below hb.size fun k hk => own_ne HJ.out.own k hk))
        clear hown3 ht3 hk3
        go_wp2_with fail
        go_roundw
        case rel => exact ⟨m1, _, rfl, HN⟩
        case measure => have := HM.out; simp [intOf] <;> omega
end Go.Proofs.Ythlkmlphbepnpaa

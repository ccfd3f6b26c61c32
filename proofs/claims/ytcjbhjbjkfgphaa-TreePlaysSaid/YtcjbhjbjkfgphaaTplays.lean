/-
  TreePlays: it returns true and turns nothing that was there, of any package that does what trees must. Condition: the arguments lie in memory; trees stay while a block turns that is none of theirs.
-/
import Derived.Test.YtcjbhjbjkfgphaaTpst
import Derived.Test.YtcjbhjbjkfgphaaTstep
import Derived.Deep.RegionHeld3
namespace Go.Proofs.Ytcjbhjbjkfgphaa
open Go.RowKit Go.Deep Go.Maps

section
variable {R : World → Option Addr → List UInt8 → Prop} {T : World → Option Addr → List FileM → Prop}
theorem below_dr (w : World) : Below w.heap.size w w.drew := (Below.refl _ _).drew
theorem PJ.cells {w W : World} {g5 g6 n5 n6 c5 c6 : Nat} {es : List Ent} (h : PJ T w W (.slice (some ⟨g5, 0, none⟩) n5 c5) (.slice (some ⟨g6, 0, none⟩) n6 c6) es []) {k : Nat} {en : Ent} (hk : es[k]? = some en) : W.cell? ⟨g5, k, none⟩ = some (.pointer en.p) ∧ W.cell? ⟨g6, k, none⟩ = some en.lv ∧ EntryOk T W en.p en.lv en.fs := by
  obtain ⟨g, c, e, _, hc⟩ := h.rowT.cell
  obtain ⟨g', c', e', _, hc'⟩ := h.rowL.cell
  injection e with e1
  injection e1 with e1
  injection e1 with e1
  injection e' with e2
  injection e2 with e2
  injection e2 with e2
  subst e1 e2
  refine ⟨hc k _ ?_, hc' k _ ?_, h.each en (List.mem_append.2 (.inl (List.mem_of_getElem? hk)))⟩
  · simp [ptrsE, hk]
  · simp [listsE, hk]
set_option maxRecDepth 100000 in
set_option maxHeartbeats 64000000 in
theorem plays_any (F : RopeFew R) (K : TreeApi R T) (KF : TreeFar T) (SA : Option Addr) (os : List ActM) (scap : Nat) (path : ByteArray) (w : World) (hos : ActsAt w SA os) (hlen : os.length ≤ maxLen) :
    Calls Try.prog 3 #[.slice SA os.length scap, .string path] w (TrueIs w) := by
  have HAL := Lib.hid fun (W : World) => alive_any F K W
  have HOS := Lib.hid hos
  have HLN := Lib.hid hlen
  clear hos hlen

  go_enter Try.func3, Try.ntmps3
  go_upto_region 3 with fail
  obtain ⟨W2, hW2⟩ : ∃ W2, W2 = (w.alloc (.cells #[.pointer none] 29)).alloc (.cells #[.slice none 0 0] 30) := ⟨_, rfl⟩
  have HPJ := Lib.hid (show PJ T w W2 (.slice (some ⟨w.heap.size, 0, none⟩) 1 1) (.slice (some ⟨w.heap.size + 1, 0, none⟩) 1 1) [⟨none, .slice none 0 0, []⟩] [] by
    have h := PJ.start K w
    rw [show (w.alloc (.cells #[.pointer none] 29)).heap.size = w.heap.size + 1 by simp] at h
    rw [hW2]; exact h)
  rw [← hW2]
  clear hW2
  by_cases hp : path.size ≤ 100
  case neg =>
    have g : decide ((path.size : Int) > 100) = true := decide_eq_true (by omega)
    have gn : decide (100 < path.size) = true := decide_eq_true (by omega)
    clear hp
    go_wp2_with fail
    go_at_call 7
    (with_reducible refine (HAL.out _).mono ?_)
    rintro e w5 ⟨rfl, hb5⟩
    have HB5 := Lib.hid (HPJ.out.below.trans (hb5.mono HPJ.out.below.size))
    clear hb5
    go_wp2_with fail
    go_ret
    exact ⟨rfl, HB5.out⟩
  case pos =>
  have g : decide ((path.size : Int) > 100) = false := decide_eq_false (by omega)
  have gn : decide (100 < path.size) = false := decide_eq_false (by omega)
  have gi : (path.size : Int) ≤ 100 := by omega
  have HPS := Lib.hid hp
  clear hp
  go_wp2_with fail
  clear g gn gi
  go_loopw [5, 6, 7, 8, 9, 10, 11, 12, 13, 14, 15, 16] (fun t5 t6 iv _ _ _ _ _ _ _ _ _ wr => ∃ (es : List Ent) (i : Nat), iv = .int .i64 (i : Int) ∧ Hid (PJ T w wr t5 t6 es [] ∧ i ≤ 60 ∧ es.length ≤ i + 1 ∧ 0 < es.length ∧ ∀ e ∈ es, e.fs.length ≤ i)) (fun _ _ iv _ _ _ _ _ _ _ _ _ _ => 61 - (intOf iv).toNat)
  case atStart => exact ⟨[⟨none, .slice none 0 0, []⟩], 0, rfl, Lib.hid ⟨HPJ.out, by omega, by simp, by simp, fun e he => by rw [List.mem_singleton] at he; rw [he]; exact Nat.le_refl _⟩⟩
  case round =>
    clear HPJ
    obtain ⟨es, i, rfl, HJ⟩ := hrel
    have HES := Lib.hid HJ.out.2.2
    have hi60 := HJ.out.2.1
    have HPJ := Lib.hid HJ.out.1
    clear HJ
    by_cases hi : i < os.length
    case neg =>
      have gi : decide ((i : Int) < (os.length : Int)) = false := decide_eq_false (by omega)
      have gin : decide (i < os.length) = false := decide_eq_false hi
      obtain ⟨g5, c5, h5, hc5, hcell5⟩ := HPJ.out.rowT.cell
      obtain ⟨g6, c6, h6, hc6, hcell6⟩ := HPJ.out.rowL.cell
      rw [h5, h6] at HPJ
      rw [h5, h6]
      have hl5 : (ptrsE (es ++ [])).length = es.length := by simp [ptrsE]
      have hl6 : (listsE es).length = es.length := by simp [listsE]
      rw [hl5] at HPJ ⊢
      rw [hl6] at HPJ ⊢
      have HLE := Lib.hid (show es.length ≤ 61 by have := HES.out.1; omega)
      clear h5 h6 hcell5 hcell6 hl5 hl6 hc5 hc6 hi60 hi
      go_wp2_with fail
      go_loopw [17, 18] (fun jv _ wq => ∃ j : Nat, jv = .int .i64 (j : Int) ∧ j ≤ es.length ∧ Hid (PJ T w wq (.slice (some ⟨g5, 0, none⟩) es.length c5) (.slice (some ⟨g6, 0, none⟩) es.length c6) es [])) (fun jv _ _ => es.length - (intOf jv).toNat)
      case atStart => exact ⟨0, rfl, Nat.zero_le _, HPJ⟩
      case round =>
        clear HPJ
        obtain ⟨j, rfl, hj, HPJ⟩ := hrel
        by_cases hjl : j < es.length
        case neg =>
          have gj : decide ((j : Int) < (es.length : Int)) = false := decide_eq_false (by omega)
          have gjn : decide (j < es.length) = false := decide_eq_false hjl
          clear hjl hj
          go_wp2_with fail
          go_at_call 7
          (with_reducible refine (HAL.out _).mono ?_)
          rintro e w9 ⟨rfl, hb9⟩
          have HB9 := Lib.hid (HPJ.out.below.trans (hb9.mono HPJ.out.below.size))
          clear hb9
          go_wp2_with fail
          go_ret
          exact ⟨rfl, HB9.out⟩
        case pos =>
          have gj : decide ((j : Int) < (es.length : Int)) = true := decide_eq_true (by omega)
          have gjn : decide (j < es.length) = true := decide_eq_true hjl
          have gji : (j : Int) < (es.length : Int) := by omega
          obtain ⟨j1, hj1⟩ : ∃ j1, j1 = j + 1 := ⟨_, rfl⟩
          have hwj : IntKind.i64.wrap ((j : Int) + 1) = (j1 : Int) := by have := HLE.out; rw [IntWalk.i64_in ((j : Int) + 1) (by omega)]; omega
          have HJ1 := Lib.hid (show es.length - j1 < es.length - j ∧ j1 ≤ es.length by omega)
          obtain ⟨en, hen⟩ : ∃ en, es[j]? = some en := ⟨_, List.getElem?_eq_getElem hjl⟩
          have HJ2 := Lib.hid (HPJ.out.move K (below_dr _))
          obtain ⟨u5, u6, hT, LA, lc, hlv, hfl⟩ := HJ2.out.cells hen
          rw [hlv] at u6
          have HAK := Lib.hid (alike_any F K (c := lc) hT hfl rfl path (by have := HPS.out; omega))
          have HK := Lib.hid (And.intro u5 u6)
          have HLV := Lib.hid hlv
          have HEN := Lib.hid hen
          clear hT hfl hlv hen hj1 hjl hj
          go_wp2_with fail
          go_region_held3 (fun wz => wz.cell? ⟨g5, j, none⟩ = some (.pointer en.p) ∧ wz.cell? ⟨g6, j, none⟩ = some (.slice LA en.fs.length lc))
            ((first | exact HK.out | exact HK9.out | assumption))
            (first | (go_at_call 16; (with_reducible refine HAK.out.mono ?_); rintro e w9 ⟨rfl, hb9⟩; have HJ9 := Lib.hid (HJ2.out.move K hb9); have c9 := HJ9.out.cells HEN.out; have HK9 := Lib.hid (And.intro c9.1 (c9.2.1.trans (by rw [HLV.out]))); clear hb9 c9))
          go_wp2_with fail
          exact ⟨⟨j1, rfl, HJ1.out.2, HJ9⟩, by simpa [intOf] using HJ1.out.1⟩
    case pos =>
    by_cases hs : i < 60
    case neg =>
      have gi : decide ((i : Int) < (os.length : Int)) = true := decide_eq_true (by omega)
      have gin : decide (i < os.length) = true := decide_eq_true hi
      have gl : decide ((i : Int) < 60) = false := decide_eq_false (by omega)
      have gln : decide (i < 60) = false := decide_eq_false hs
      obtain ⟨g5, c5, h5, hc5, hcell5⟩ := HPJ.out.rowT.cell
      obtain ⟨g6, c6, h6, hc6, hcell6⟩ := HPJ.out.rowL.cell
      rw [h5, h6] at HPJ
      rw [h5, h6]
      have hl5 : (ptrsE (es ++ [])).length = es.length := by simp [ptrsE]
      have hl6 : (listsE es).length = es.length := by simp [listsE]
      rw [hl5] at HPJ ⊢
      rw [hl6] at HPJ ⊢
      have HLE := Lib.hid (show es.length ≤ 61 by have := HES.out.1; omega)
      clear h5 h6 hcell5 hcell6 hl5 hl6 hc5 hc6 hi60 hi
      go_wp2_with fail
      go_loopw [17, 18] (fun jv _ wq => ∃ j : Nat, jv = .int .i64 (j : Int) ∧ j ≤ es.length ∧ Hid (PJ T w wq (.slice (some ⟨g5, 0, none⟩) es.length c5) (.slice (some ⟨g6, 0, none⟩) es.length c6) es [])) (fun jv _ _ => es.length - (intOf jv).toNat)
      case atStart => exact ⟨0, rfl, Nat.zero_le _, HPJ⟩
      case round =>
        clear HPJ
        obtain ⟨j, rfl, hj, HPJ⟩ := hrel
        by_cases hjl : j < es.length
        case neg =>
          have gj : decide ((j : Int) < (es.length : Int)) = false := decide_eq_false (by omega)
          have gjn : decide (j < es.length) = false := decide_eq_false hjl
          clear hjl hj
          go_wp2_with fail
          go_at_call 7
          (with_reducible refine (HAL.out _).mono ?_)
          rintro e w9 ⟨rfl, hb9⟩
          have HB9 := Lib.hid (HPJ.out.below.trans (hb9.mono HPJ.out.below.size))
          clear hb9
          go_wp2_with fail
          go_ret
          exact ⟨rfl, HB9.out⟩
        case pos =>
          have gj : decide ((j : Int) < (es.length : Int)) = true := decide_eq_true (by omega)
          have gjn : decide (j < es.length) = true := decide_eq_true hjl
          have gji : (j : Int) < (es.length : Int) := by omega
          obtain ⟨j1, hj1⟩ : ∃ j1, j1 = j + 1 := ⟨_, rfl⟩
          have hwj : IntKind.i64.wrap ((j : Int) + 1) = (j1 : Int) := by have := HLE.out; rw [IntWalk.i64_in ((j : Int) + 1) (by omega)]; omega
          have HJ1 := Lib.hid (show es.length - j1 < es.length - j ∧ j1 ≤ es.length by omega)
          obtain ⟨en, hen⟩ : ∃ en, es[j]? = some en := ⟨_, List.getElem?_eq_getElem hjl⟩
          have HJ2 := Lib.hid (HPJ.out.move K (below_dr _))
          obtain ⟨u5, u6, hT, LA, lc, hlv, hfl⟩ := HJ2.out.cells hen
          rw [hlv] at u6
          have HAK := Lib.hid (alike_any F K (c := lc) hT hfl rfl path (by have := HPS.out; omega))
          have HK := Lib.hid (And.intro u5 u6)
          have HLV := Lib.hid hlv
          have HEN := Lib.hid hen
          clear hT hfl hlv hen hj1 hjl hj
          go_wp2_with fail
          go_region_held3 (fun wz => wz.cell? ⟨g5, j, none⟩ = some (.pointer en.p) ∧ wz.cell? ⟨g6, j, none⟩ = some (.slice LA en.fs.length lc))
            ((first | exact HK.out | exact HK9.out | assumption))
            (first | (go_at_call 16; (with_reducible refine HAK.out.mono ?_); rintro e w9 ⟨rfl, hb9⟩; have HJ9 := Lib.hid (HJ2.out.move K hb9); have c9 := HJ9.out.cells HEN.out; have HK9 := Lib.hid (And.intro c9.1 (c9.2.1.trans (by rw [HLV.out]))); clear hb9 c9))
          go_wp2_with fail
          exact ⟨⟨j1, rfl, HJ1.out.2, HJ9⟩, by simpa [intOf] using HJ1.out.1⟩
    case pos =>
    have gi : decide ((i : Int) < (os.length : Int)) = true := decide_eq_true (by omega)
    have gin : decide (i < os.length) = true := decide_eq_true hi
    have gii : (i : Int) < (os.length : Int) := by omega
    have gl : decide ((i : Int) < 60) = true := decide_eq_true (by omega)
    have gln : decide (i < 60) = true := decide_eq_true hs
    have gli : (i : Int) < 60 := by omega
    obtain ⟨i1, hi1⟩ : ∃ i1, i1 = i + 1 := ⟨_, rfl⟩
    have HWI := Lib.hid (show IntKind.i64.wrap ((i : Int) + 1) = (i1 : Int) by rw [IntWalk.i64_in ((i : Int) + 1) (by omega)]; omega)
    have HI1 := Lib.hid (show 61 - i1 < 61 - i ∧ i1 ≤ 60 ∧ i1 = i + 1 by omega)
    obtain ⟨o, ho⟩ : ∃ o, os[i]? = some o := ⟨_, List.getElem?_eq_getElem hi⟩
    obtain ⟨⟨wk, wi, wv, wp, ws⟩, sg, so, hSA, hrange⟩ := HOS.out i o ho
    have lsg := World.block_lt_of_cell? w _ (hrange 0 _ rfl)
    have kc : ∀ j u, o.cells[j]? = some u → wr.cell? ⟨sg, so + i * 5 + j, none⟩ = some u := fun j u hu => (HPJ.out.below.cell (p := ⟨sg, so + i * 5 + j, none⟩) lsg).trans (hrange j u hu)
    have k0 : wr.cell? ⟨sg, so + i * 5, none⟩ = some (.int .i64 o.kind) := kc 0 _ rfl
    have k1 : wr.cell? ⟨sg, so + i * 5 + 1, none⟩ = some (.int .i64 o.i) := kc 1 _ rfl
    have k2 : wr.cell? ⟨sg, so + i * 5 + 2, none⟩ = some (.int .i64 o.ver) := kc 2 _ rfl
    have k3 : wr.cell? ⟨sg, so + i * 5 + 3, none⟩ = some (.string o.path) := kc 3 _ rfl
    have k4 : wr.cell? ⟨sg, so + i * 5 + 4, none⟩ = some (.string o.s) := kc 4 _ rfl
    subst hSA
    obtain ⟨g5, c5, h5, hc5, hcell5⟩ := HPJ.out.rowT.cell
    obtain ⟨g6, c6, h6, hc6, hcell6⟩ := HPJ.out.rowL.cell
    rw [h5, h6] at HPJ
    rw [h5, h6]
    have hl5 : (ptrsE (es ++ [])).length = es.length := by simp [ptrsE]
    have hl6 : (listsE es).length = es.length := by simp [listsE]
    rw [hl5] at HPJ ⊢
    rw [hl6] at HPJ ⊢
    have HWV := Lib.hid wv
    have HWK := Lib.hid wi
    clear ho wk wi wv wp ws hrange lsg kc h5 h6 hcell5 hcell6 hl5 hl6 hi hi60 hi1 hs hc5 hc6
    go_upto_region 9 with fail
    obtain ⟨WB, eWB⟩ : ∃ WB, WB = wr.alloc (.cells #[.int .i64 o.kind, .int .i64 o.i, .int .i64 o.ver, .string o.path, .string o.s] 27) := ⟨_, rfl⟩
    have hbB : Below wr.heap.size wr WB := by rw [eWB]; exact (Below.refl _ _).alloc (Nat.le_refl _) _
    have hBox : WB.heap[wr.heap.size]? = some (.cells #[.int .i64 o.kind, .int .i64 o.i, .int .i64 o.ver, .string o.path, .string o.s] 27 (0, 0)) := by rw [eWB]; exact heap_alloc_new wr _
    rw [← eWB]
    have hbox : ∀ W, Below WB.heap.size WB W → W.cell? ⟨wr.heap.size, 0, none⟩ = some (.int .i64 o.kind) ∧ W.cell? ⟨wr.heap.size, 1, none⟩ = some (.int .i64 o.i) ∧ W.cell? ⟨wr.heap.size, 2, none⟩ = some (.int .i64 o.ver) ∧ W.cell? ⟨wr.heap.size, 3, none⟩ = some (.string o.path) ∧ W.cell? ⟨wr.heap.size, 4, none⟩ = some (.string o.s) := fun W hB => by
      have h := Below.obj hB hBox (lt_of_some hBox)
      exact ⟨cell_of_row _ _ 0 _ _ _ h, cell_of_row _ _ 1 _ _ _ h, cell_of_row _ _ 2 _ _ _ h, cell_of_row _ _ 3 _ _ _ h, cell_of_row _ _ 4 _ _ _ h⟩
    obtain ⟨b0, b1, b2, b3, b4⟩ := hbox WB (Below.refl _ _)
    have HBOX := Lib.hid hbox
    have HJB := Lib.hid (HPJ.out.move K hbB)
    clear k0 k1 k2 k3 k4 eWB hbB hBox hbox HPJ
    by_cases hz4 : o.s.size ≤ 100
    case neg =>
      have g1 : decide ((o.s.size : Int) > 100) = true := decide_eq_true (by omega)
      have g1n : decide (100 < o.s.size) = true := decide_eq_true (by omega)
      have hwi := HWI.out
      clear hz4 gi gin gii gl gln gli
      go_wp2_with fail
      exact ⟨⟨es, i1, rfl, Lib.hid ⟨HJB.out, HI1.out.2.1, by have := HES.out.1; have := HI1.out; omega, HES.out.2.1, fun e he => Nat.le_trans (HES.out.2.2 e he) (by have := HI1.out; omega)⟩⟩, by simpa [intOf] using HI1.out.1⟩
    case pos =>
    have g1 : decide ((o.s.size : Int) > 100) = false := decide_eq_false (by omega)
    have g1n : decide (100 < o.s.size) = false := decide_eq_false (by omega)
    have g1i : (o.s.size : Int) ≤ 100 := by omega
    by_cases hz3 : o.path.size ≤ 100
    case neg =>
      have g2 : decide ((o.path.size : Int) > 100) = true := decide_eq_true (by omega)
      have g2n : decide (100 < o.path.size) = true := decide_eq_true (by omega)
      have hwi := HWI.out
      clear hz4 hz3 gi gin gii gl gln gli
      go_wp2_with fail
      exact ⟨⟨es, i1, rfl, Lib.hid ⟨HJB.out, HI1.out.2.1, by have := HES.out.1; have := HI1.out; omega, HES.out.2.1, fun e he => Nat.le_trans (HES.out.2.2 e he) (by have := HI1.out; omega)⟩⟩, by simpa [intOf] using HI1.out.1⟩
    case pos =>
    have g2 : decide ((o.path.size : Int) > 100) = false := decide_eq_false (by omega)
    have g2n : decide (100 < o.path.size) = false := decide_eq_false (by omega)
    have g2i : (o.path.size : Int) ≤ 100 := by omega
    have HZ := Lib.hid (And.intro hz4 hz3)
    have HPK := Lib.hid fun (W : World) => pick_any o.i es.length W HWK.out HES.out.2.1 (by have := HES.out.1; have := HI1.out; omega)
    obtain ⟨k, hk⟩ : ∃ k, k = pickN o.i es.length := ⟨_, rfl⟩
    have hkl := pickN_lt (n := o.i) HES.out.2.1
    rw [← hk] at HPK hkl
    obtain ⟨en, hen⟩ : ∃ en, es[k]? = some en := ⟨_, List.getElem?_eq_getElem hkl⟩
    have HEN := Lib.hid hen
    have HLE := Lib.hid (HES.out.2.2 en (List.mem_of_getElem? hen))
    have hkli : (k : Int) < (es.length : Int) := by omega
    clear hz4 hz3 hk gi gin gii gl gln gli hen
    go_wp2_with fail
    go_at_call 8
    (with_reducible refine (HPK.out _).mono ?_)
    rintro e w0 ⟨rfl, hw0⟩
    subst hw0
    clear g1 g1n g1i g2 g2n g2i
    by_cases hk1 : o.kind = 1
    case pos =>
      have e1 : (o.kind == 1) = true := by rw [hk1]; rfl
      obtain ⟨l, el⟩ : ∃ l, o.s = txt l := ⟨o.s.data.toList, (txt_of o.s).symm⟩
      have HOF := Lib.hid (F.of_ok l o.s WB el (by have h := HZ.out.1; rw [el, size_txt] at h; omega))
      have EL := Lib.hid el
      clear hk1 el b0 b1 b2 b3 b4
      have b4 := (HBOX.out WB (Below.refl _ _)).2.2.2.2
      have b0 := (HBOX.out WB (Below.refl _ _)).1
      go_wp2_with fail
      go_at_call 9
      (with_reducible refine HOF.out.mono ?_)
      rintro e W1 ⟨r, rfl, hr1, hb1⟩
      have HR1 := Lib.hid hr1
      have HB1 := Lib.hid hb1
      clear hr1 hb1 b0 b4
      go_wp2_with fail
      by_cases hright : RightP o.path
      case pos =>
        have HRP := Lib.hid hright
        clear hright
        have HJ1 := Lib.hid (HJB.out.move K HB1.out)
        have HJ1d := Lib.hid (HJ1.out.move K (below_dr W1))
        have c1 := HJ1.out.cells HEN.out
        have hb1 := HBOX.out W1 HB1.out
        have HK1 := Lib.hid (show W1.drew.cell? ⟨g5, k, none⟩ = some (.pointer en.p) ∧ W1.drew.cell? ⟨wr.heap.size, 3, none⟩ = some (.string o.path) ∧ W1.drew.cell? ⟨wr.heap.size, 2, none⟩ = some (.int .i64 o.ver) from ⟨c1.1, hb1.2.2.2.1, hb1.2.2.1⟩)
        obtain ⟨q0, q3, q2⟩ := HK1.out
        clear c1 hb1
        have HC := Lib.hid (K.set_ok o.path o.ver o.s (HJ1d.out.cells HEN.out).2.2.1 (F.below HR1.out (below_dr W1)) EL.out HRP.out (by have := dropF_length_le en.fs o.path; have := HLE.out; have := HI1.out; omega) HWV.out)
        go_region_held3 (fun wz => wz.cell? ⟨g5, k, none⟩ = some (.pointer en.p) ∧ wz.cell? ⟨wr.heap.size, 3, none⟩ = some (.string o.path) ∧ wz.cell? ⟨wr.heap.size, 2, none⟩ = some (.int .i64 o.ver))
          ((first | exact HK1.out | exact HK2.out | assumption))
          (first | (go_at_call 10; (with_reducible refine HC.out.mono ?_); rintro e w2 ⟨x, rfl, hx, hb2⟩; have HX2 := Lib.hid hx; have HB2 := Lib.hid (HB1.out.trans (((below_dr W1).trans (hb2.mono (Nat.le_refl _))).mono HB1.out.size)); have HJ2 := Lib.hid (HJ1d.out.move K hb2); have c2 := HJ2.out.cells HEN.out; have hb2' := HBOX.out w2 HB2.out; have HK2 := Lib.hid (show w2.cell? ⟨g5, k, none⟩ = some (.pointer en.p) ∧ w2.cell? ⟨wr.heap.size, 3, none⟩ = some (.string o.path) ∧ w2.cell? ⟨wr.heap.size, 2, none⟩ = some (.int .i64 o.ver) from ⟨c2.1, hb2'.2.2.2.1, hb2'.2.2.1⟩); clear hb2 c2 hb2' hx))
        clear q0 q3 q2 HK1 HJ1 HJ1d HC
        have HJ2d := Lib.hid (HJ2.out.move K (below_dr w2))
        obtain ⟨c5', c6', hT2, LA, lc, hlv, hfl⟩ := HJ2d.out.cells HEN.out
        rw [hlv] at c6'
        have HLV := Lib.hid hlv
        have hb2 := HBOX.out w2 HB2.out
        have HK3 := Lib.hid (show w2.drew.cell? ⟨g6, k, none⟩ = some (.slice LA en.fs.length lc) ∧ w2.drew.cell? ⟨wr.heap.size, 3, none⟩ = some (.string o.path) ∧ w2.drew.cell? ⟨wr.heap.size, 2, none⟩ = some (.int .i64 o.ver) ∧ w2.drew.cell? ⟨wr.heap.size, 4, none⟩ = some (.string o.s) from ⟨c6', hb2.2.2.2.1, hb2.2.2.1, hb2.2.2.2.2⟩)
        have HD := Lib.hid (ref_set en.fs LA en.fs.length lc o.path o.ver o.s w2.drew hfl rfl (by have := HLE.out; have := HI1.out; omega) (K.rise hT2) (by have := HZ.out.2; omega) HRP.out (by have := dropF_length_le en.fs o.path; have := HLE.out; have := HI1.out; omega))
        obtain ⟨q0, q3, q2, q4⟩ := HK3.out
        clear c5' c6' hT2 hlv hfl hb2
        go_wp2_with fail
        go_region_held3 (fun wz => wz.cell? ⟨g6, k, none⟩ = some (.slice LA en.fs.length lc) ∧ wz.cell? ⟨wr.heap.size, 3, none⟩ = some (.string o.path) ∧ wz.cell? ⟨wr.heap.size, 2, none⟩ = some (.int .i64 o.ver) ∧ wz.cell? ⟨wr.heap.size, 4, none⟩ = some (.string o.s))
          ((first | exact HK3.out | exact HK4.out | assumption))
          (first | (go_at_call 11; (with_reducible refine HD.out.mono ?_); rintro e w3 ⟨lv, rfl, hown, hb3⟩; have HOWN := Lib.hid hown; have HB3 := Lib.hid (HB2.out.trans (((below_dr w2).trans (hb3.mono (Nat.le_refl _))).mono HB2.out.size)); have HJ3 := Lib.hid (HJ2d.out.move K hb3); have c3 := (HJ3.out.cells HEN.out); have hb3' := HBOX.out w3 HB3.out; have HBX3 := Lib.hid hb3; clear hb3 hown; have HK4 := Lib.hid (show w3.cell? ⟨g6, k, none⟩ = some (.slice LA en.fs.length lc) ∧ w3.cell? ⟨wr.heap.size, 3, none⟩ = some (.string o.path) ∧ w3.cell? ⟨wr.heap.size, 2, none⟩ = some (.int .i64 o.ver) ∧ w3.cell? ⟨wr.heap.size, 4, none⟩ = some (.string o.s) from ⟨c3.2.1.trans (by rw [HLV.out]), hb3'.2.2.2.1, hb3'.2.2.1, hb3'.2.2.2.2⟩); clear c3 hb3'))
        have HE3 := Lib.hid (K.below HX2.out ((below_dr w2).trans (HBX3.out.mono (Nat.le_refl _))))
        obtain ⟨LB, lc2, hlv2, hat2⟩ := HOWN.out.form
        subst hlv2
        have HAT2 := Lib.hid hat2
        have HLF := Lib.hid (show (putF en.fs ⟨o.path, o.ver, o.s⟩).length ≤ i1 by have := length_putF_le en.fs ⟨o.path, o.ver, o.s⟩; have := HLE.out; have := HI1.out; omega)
        clear hat2 HX2
        have HBd := Lib.hid (show Below WB.heap.size WB w3.drew from (HB3.out).trans ((below_dr w3).mono (HB3.out).size))
        have HJd := Lib.hid ((HJ3.out).move K (below_dr w3))
        have HK6 := Lib.hid (HBOX.out _ HBd.out).2.2.2.1
        have HRA := Lib.hid (K.right_is o.path w3.drew (by have := HZ.out.2; omega))
        have HRR := Lib.hid fun (W : World) => ref_right o.path W (by have := HZ.out.2; omega)
        rw [decide_eq_true HRP.out] at HRA HRR
        clear q0 q3 q2 q4
        have q3 := HK6.out
        go_wp2_with fail
        go_region_held3 (fun wz => wz.cell? ⟨wr.heap.size, 3, none⟩ = some (.string o.path))
          ((first | exact HK6.out | exact HK7.out | assumption))
          (first | (go_at_call 14; (with_reducible refine HRA.out.mono ?_); rintro e w4 ⟨rfl, hb4⟩; have HB4 := Lib.hid (HBd.out.trans (hb4.mono HBd.out.size)); have HB34 := Lib.hid hb4; have HJ4 := Lib.hid (HJd.out.move K hb4); have HK7 := Lib.hid (HBOX.out w4 HB4.out).2.2.2.1; clear hb4) | (go_at_call 15; (with_reducible refine (HRR.out _).mono ?_); rintro e w5 ⟨rfl, hw5⟩; subst hw5))
        have HB35 := Lib.hid ((below_dr w3).trans (HB34.out.mono (Nat.le_refl _)))
        have HE4 := Lib.hid (show EntryOk T w4 x (.slice LB (putF en.fs ⟨o.path, o.ver, o.s⟩).length lc2) (putF en.fs ⟨o.path, o.ver, o.s⟩) from ⟨K.below HE3.out HB35.out, LB, lc2, rfl, HAT2.out.below HB35.out⟩)
        have HNE := Lib.hid (show es.length + 1 ≤ 100000 by have := HES.out.1; have := HI1.out; omega)
        go_wp2_with ((refine wpList_push_tree K KF 130 ⟨x, .slice LB (putF en.fs ⟨o.path, o.ver, o.s⟩).length lc2, (putF en.fs ⟨o.path, o.ver, o.s⟩)⟩ HJ4.out HE4.out rfl rfl HNE.out ?_))
        intro v5 w6 hj6
        have HJ6 := Lib.hid hj6
        clear hj6
        go_wp2_with ((refine wpList_push_list K KF 134 ⟨x, .slice LB (putF en.fs ⟨o.path, o.ver, o.s⟩).length lc2, (putF en.fs ⟨o.path, o.ver, o.s⟩)⟩ HJ6.out rfl rfl HNE.out ?_))
        intro v6 w7 hj7
        obtain ⟨hT7, A7, c7, e7, h7⟩ := hj7.each ⟨x, .slice LB (putF en.fs ⟨o.path, o.ver, o.s⟩).length lc2, (putF en.fs ⟨o.path, o.ver, o.s⟩)⟩ (by simp)
        have HAK := Lib.hid (alike_any F K (c := c7) hT7 h7 rfl path (by have := HPS.out; omega))
        obtain ⟨rfl, -, rfl⟩ := Value.slice.inj e7
        have HJ7 := Lib.hid hj7
        clear hj7 hT7 h7 e7
        go_wp2_with fail
        go_at_call 16
        (with_reducible refine HAK.out.mono ?_)
        rintro e w8 ⟨rfl, hb8⟩
        have HJ8 := Lib.hid (HJ7.out.move K hb8)
        clear hb8
        have hwi := HWI.out
        go_wp2_with fail
        exact ⟨⟨es ++ [⟨x, .slice LB (putF en.fs ⟨o.path, o.ver, o.s⟩).length lc2, (putF en.fs ⟨o.path, o.ver, o.s⟩)⟩], i1, rfl, Lib.hid ⟨HJ8.out, HI1.out.2.1, by have := HES.out.1; have := HI1.out; simp; omega, by simp, fun e he => by
          rcases List.mem_append.1 he with he | he
          · exact Nat.le_trans (HES.out.2.2 e he) (by have := HI1.out; omega)
          · rw [List.mem_singleton.1 he]; exact HLF.out⟩⟩, by simpa [intOf] using HI1.out.1⟩
      case neg =>
        have HRP := Lib.hid hright
        clear hright
        have HJ1 := Lib.hid (HJB.out.move K HB1.out)
        have HJ1d := Lib.hid (HJ1.out.move K (below_dr W1))
        have c1 := HJ1.out.cells HEN.out
        have hb1 := HBOX.out W1 HB1.out
        have HK1 := Lib.hid (show W1.drew.cell? ⟨g5, k, none⟩ = some (.pointer en.p) ∧ W1.drew.cell? ⟨wr.heap.size, 3, none⟩ = some (.string o.path) ∧ W1.drew.cell? ⟨wr.heap.size, 2, none⟩ = some (.int .i64 o.ver) from ⟨c1.1, hb1.2.2.2.1, hb1.2.2.1⟩)
        obtain ⟨q0, q3, q2⟩ := HK1.out
        clear c1 hb1
        have HC := Lib.hid (K.set_path o.path o.ver (HJ1d.out.cells HEN.out).2.2.1 (F.below HR1.out (below_dr W1)) HRP.out (by have := HZ.out.2; omega) HWV.out)
        go_region_held3 (fun wz => wz.cell? ⟨g5, k, none⟩ = some (.pointer en.p) ∧ wz.cell? ⟨wr.heap.size, 3, none⟩ = some (.string o.path) ∧ wz.cell? ⟨wr.heap.size, 2, none⟩ = some (.int .i64 o.ver))
          ((first | exact HK1.out | exact HK2.out | assumption))
          (first | (go_at_call 10; (with_reducible refine HC.out.mono ?_); rintro e w2 ⟨x, rfl, hb2⟩; have HB2 := Lib.hid (HB1.out.trans (((below_dr W1).trans (hb2.mono (Nat.le_refl _))).mono HB1.out.size)); have HJ2 := Lib.hid (HJ1d.out.move K hb2); have c2 := HJ2.out.cells HEN.out; have hb2' := HBOX.out w2 HB2.out; have HK2 := Lib.hid (show w2.cell? ⟨g5, k, none⟩ = some (.pointer en.p) ∧ w2.cell? ⟨wr.heap.size, 3, none⟩ = some (.string o.path) ∧ w2.cell? ⟨wr.heap.size, 2, none⟩ = some (.int .i64 o.ver) from ⟨c2.1, hb2'.2.2.2.1, hb2'.2.2.1⟩); clear hb2 c2 hb2'))
        clear q0 q3 q2 HK1 HJ1 HJ1d HC
        have HJ2d := Lib.hid (HJ2.out.move K (below_dr w2))
        obtain ⟨c5', c6', hT2, LA, lc, hlv, hfl⟩ := HJ2d.out.cells HEN.out
        rw [hlv] at c6'
        have HLV := Lib.hid hlv
        have hb2 := HBOX.out w2 HB2.out
        have HK3 := Lib.hid (show w2.drew.cell? ⟨g6, k, none⟩ = some (.slice LA en.fs.length lc) ∧ w2.drew.cell? ⟨wr.heap.size, 3, none⟩ = some (.string o.path) ∧ w2.drew.cell? ⟨wr.heap.size, 2, none⟩ = some (.int .i64 o.ver) ∧ w2.drew.cell? ⟨wr.heap.size, 4, none⟩ = some (.string o.s) from ⟨c6', hb2.2.2.2.1, hb2.2.2.1, hb2.2.2.2.2⟩)
        have HD := Lib.hid (ref_set_path (.slice LA en.fs.length lc) o.path o.ver o.s w2.drew (by have := HZ.out.2; omega) HRP.out)
        obtain ⟨q0, q3, q2, q4⟩ := HK3.out
        clear c5' c6' hT2 hlv hfl hb2
        go_wp2_with fail
        go_region_held3 (fun wz => wz.cell? ⟨g6, k, none⟩ = some (.slice LA en.fs.length lc) ∧ wz.cell? ⟨wr.heap.size, 3, none⟩ = some (.string o.path) ∧ wz.cell? ⟨wr.heap.size, 2, none⟩ = some (.int .i64 o.ver) ∧ wz.cell? ⟨wr.heap.size, 4, none⟩ = some (.string o.s))
          ((first | exact HK3.out | exact HK3.out | assumption))
          (first | (go_at_call 11; (with_reducible refine HD.out.mono ?_); rintro e w3 ⟨rfl, hw3⟩; subst hw3))
        have HBd := Lib.hid (show Below WB.heap.size WB w2.drew.drew from (HB2.out.drew).trans ((below_dr w2.drew).mono (HB2.out.drew).size))
        have HJd := Lib.hid ((HJ2d.out).move K (below_dr w2.drew))
        have HK6 := Lib.hid (HBOX.out _ HBd.out).2.2.2.1
        have HRA := Lib.hid (K.right_is o.path w2.drew.drew (by have := HZ.out.2; omega))
        have HRR := Lib.hid fun (W : World) => ref_right o.path W (by have := HZ.out.2; omega)
        rw [decide_eq_false HRP.out] at HRA HRR
        clear q0 q3 q2 q4
        have q3 := HK6.out
        go_wp2_with fail
        go_region_held3 (fun wz => wz.cell? ⟨wr.heap.size, 3, none⟩ = some (.string o.path))
          ((first | exact HK6.out | exact HK7.out | assumption))
          (first | (go_at_call 14; (with_reducible refine HRA.out.mono ?_); rintro e w4 ⟨rfl, hb4⟩; have HB4 := Lib.hid (HBd.out.trans (hb4.mono HBd.out.size)); have HB34 := Lib.hid hb4; have HJ4 := Lib.hid (HJd.out.move K hb4); have HK7 := Lib.hid (HBOX.out w4 HB4.out).2.2.2.1; clear hb4) | (go_at_call 15; (with_reducible refine (HRR.out _).mono ?_); rintro e w5 ⟨rfl, hw5⟩; subst hw5))
        have hwi := HWI.out
        go_wp2_with fail
        exact ⟨⟨es, i1, rfl, Lib.hid ⟨HJ4.out, HI1.out.2.1, by have := HES.out.1; have := HI1.out; omega, HES.out.2.1, fun e he => Nat.le_trans (HES.out.2.2 e he) (by have := HI1.out; omega)⟩⟩, by simpa [intOf] using HI1.out.1⟩
    case neg =>
      have e1 : (o.kind == 1) = false := by rw [beq_eq_false_iff_ne]; exact hk1
      by_cases hk2 : o.kind = 2
      case pos =>
        have e2 : (o.kind == 2) = true := by rw [hk2]; rfl
        clear hk1 hk2 b1 b2 b3 b4
        have HB1 := Lib.hid (Below.refl WB.heap.size WB)
        obtain ⟨W1, hW1⟩ : ∃ W1, W1 = WB := ⟨_, rfl⟩
        go_wp2_with fail
        clear b0
        have HB1 : Hid (Below WB.heap.size WB W1) := by rw [hW1]; exact HB1
        rw [← hW1]
        by_cases hfd : findF en.fs o.path = none
        case pos =>
          have HFD := Lib.hid hfd
          clear hfd hW1
          have HJ1 := Lib.hid (HJB.out.move K HB1.out)
          have HJ1d := Lib.hid (HJ1.out.move K (below_dr W1))
          have c1 := HJ1.out.cells HEN.out
          have hb1 := HBOX.out W1 HB1.out
          have HK1 := Lib.hid (show W1.drew.cell? ⟨g5, k, none⟩ = some (.pointer en.p) ∧ W1.drew.cell? ⟨wr.heap.size, 3, none⟩ = some (.string o.path) from ⟨c1.1, hb1.2.2.2.1⟩)
          obtain ⟨q0, q3⟩ := HK1.out
          clear c1 hb1
          have HC := Lib.hid (K.drop_no o.path (HJ1d.out.cells HEN.out).2.2.1 (by have := HZ.out.2; omega) HFD.out)
          go_region_held3 (fun wz => wz.cell? ⟨g5, k, none⟩ = some (.pointer en.p) ∧ wz.cell? ⟨wr.heap.size, 3, none⟩ = some (.string o.path))
            ((first | exact HK1.out | exact HK2.out | assumption))
            (first | (go_at_call 12; (with_reducible refine HC.out.mono ?_); rintro e w2 ⟨x, rfl, hb2⟩; have HB2 := Lib.hid (HB1.out.trans (((below_dr W1).trans (hb2.mono (Nat.le_refl _))).mono HB1.out.size)); have HJ2 := Lib.hid (HJ1d.out.move K hb2); have c2 := HJ2.out.cells HEN.out; have hb2' := HBOX.out w2 HB2.out; have HK2 := Lib.hid (show w2.cell? ⟨g5, k, none⟩ = some (.pointer en.p) ∧ w2.cell? ⟨wr.heap.size, 3, none⟩ = some (.string o.path) from ⟨c2.1, hb2'.2.2.2.1⟩); clear hb2 c2 hb2'))
          clear q0 q3 HK1 HJ1 HJ1d HC
          have HJ2d := Lib.hid (HJ2.out.move K (below_dr w2))
          obtain ⟨c5', c6', hT2, LA, lc, hlv, hfl⟩ := HJ2d.out.cells HEN.out
          rw [hlv] at c6'
          have HLV := Lib.hid hlv
          have hb2 := HBOX.out w2 HB2.out
          have HK3 := Lib.hid (show w2.drew.cell? ⟨g6, k, none⟩ = some (.slice LA en.fs.length lc) ∧ w2.drew.cell? ⟨wr.heap.size, 3, none⟩ = some (.string o.path) from ⟨c6', hb2.2.2.2.1⟩)
          have HD := Lib.hid (ref_drop_none en.fs LA en.fs.length lc o.path w2.drew hfl rfl (by have := HLE.out; have := HI1.out; omega) HFD.out)
          obtain ⟨q0, q3⟩ := HK3.out
          clear c5' c6' hT2 hlv hfl hb2
          go_wp2_with fail
          go_region_held3 (fun wz => wz.cell? ⟨g6, k, none⟩ = some (.slice LA en.fs.length lc) ∧ wz.cell? ⟨wr.heap.size, 3, none⟩ = some (.string o.path))
            ((first | exact HK3.out | exact HK3.out | assumption))
            (first | (go_at_call 13; (with_reducible refine HD.out.mono ?_); rintro e w3 ⟨rfl, hw3⟩; subst hw3))
          have HBd := Lib.hid (show Below WB.heap.size WB w2.drew.drew from (HB2.out.drew).trans ((below_dr w2.drew).mono (HB2.out.drew).size))
          have HJd := Lib.hid ((HJ2d.out).move K (below_dr w2.drew))
          have HK6 := Lib.hid (HBOX.out _ HBd.out).2.2.2.1
          have HRA := Lib.hid (K.right_is o.path w2.drew.drew (by have := HZ.out.2; omega))
          have HRR := Lib.hid fun (W : World) => ref_right o.path W (by have := HZ.out.2; omega)
          obtain ⟨rb, hrb⟩ : ∃ rb, rb = decide (RightP o.path) := ⟨_, rfl⟩
          rw [← hrb] at HRA HRR
          clear hrb
          clear q0 q3
          have q3 := HK6.out
          go_wp2_with fail
          go_region_held3 (fun wz => wz.cell? ⟨wr.heap.size, 3, none⟩ = some (.string o.path))
            ((first | exact HK6.out | exact HK7.out | assumption))
            (first | (go_at_call 14; (with_reducible refine HRA.out.mono ?_); rintro e w4 ⟨rfl, hb4⟩; have HB4 := Lib.hid (HBd.out.trans (hb4.mono HBd.out.size)); have HB34 := Lib.hid hb4; have HJ4 := Lib.hid (HJd.out.move K hb4); have HK7 := Lib.hid (HBOX.out w4 HB4.out).2.2.2.1; clear hb4) | (go_at_call 15; (with_reducible refine (HRR.out _).mono ?_); rintro e w5 ⟨rfl, hw5⟩; subst hw5))
          have hwi := HWI.out
          go_wp2_with fail
          exact ⟨⟨es, i1, rfl, Lib.hid ⟨HJ4.out, HI1.out.2.1, by have := HES.out.1; have := HI1.out; omega, HES.out.2.1, fun e he => Nat.le_trans (HES.out.2.2 e he) (by have := HI1.out; omega)⟩⟩, by simpa [intOf] using HI1.out.1⟩
        case neg =>
          have HFD := Lib.hid hfd
          clear hfd hW1
          have HJ1 := Lib.hid (HJB.out.move K HB1.out)
          have HJ1d := Lib.hid (HJ1.out.move K (below_dr W1))
          have c1 := HJ1.out.cells HEN.out
          have hb1 := HBOX.out W1 HB1.out
          have HK1 := Lib.hid (show W1.drew.cell? ⟨g5, k, none⟩ = some (.pointer en.p) ∧ W1.drew.cell? ⟨wr.heap.size, 3, none⟩ = some (.string o.path) from ⟨c1.1, hb1.2.2.2.1⟩)
          obtain ⟨q0, q3⟩ := HK1.out
          clear c1 hb1
          have HC := Lib.hid (K.drop_ok o.path (HJ1d.out.cells HEN.out).2.2.1 HFD.out)
          go_region_held3 (fun wz => wz.cell? ⟨g5, k, none⟩ = some (.pointer en.p) ∧ wz.cell? ⟨wr.heap.size, 3, none⟩ = some (.string o.path))
            ((first | exact HK1.out | exact HK2.out | assumption))
            (first | (go_at_call 12; (with_reducible refine HC.out.mono ?_); rintro e w2 ⟨x, rfl, hx, hb2⟩; have HX2 := Lib.hid hx; have HB2 := Lib.hid (HB1.out.trans (((below_dr W1).trans (hb2.mono (Nat.le_refl _))).mono HB1.out.size)); have HJ2 := Lib.hid (HJ1d.out.move K hb2); have c2 := HJ2.out.cells HEN.out; have hb2' := HBOX.out w2 HB2.out; have HK2 := Lib.hid (show w2.cell? ⟨g5, k, none⟩ = some (.pointer en.p) ∧ w2.cell? ⟨wr.heap.size, 3, none⟩ = some (.string o.path) from ⟨c2.1, hb2'.2.2.2.1⟩); clear hb2 c2 hb2' hx))
          clear q0 q3 HK1 HJ1 HJ1d HC
          have HJ2d := Lib.hid (HJ2.out.move K (below_dr w2))
          obtain ⟨c5', c6', hT2, LA, lc, hlv, hfl⟩ := HJ2d.out.cells HEN.out
          rw [hlv] at c6'
          have HLV := Lib.hid hlv
          have hb2 := HBOX.out w2 HB2.out
          have HK3 := Lib.hid (show w2.drew.cell? ⟨g6, k, none⟩ = some (.slice LA en.fs.length lc) ∧ w2.drew.cell? ⟨wr.heap.size, 3, none⟩ = some (.string o.path) from ⟨c6', hb2.2.2.2.1⟩)
          have HD := Lib.hid (ref_drop en.fs LA en.fs.length lc o.path w2.drew hfl rfl (by have := HLE.out; have := HI1.out; omega) HFD.out)
          obtain ⟨q0, q3⟩ := HK3.out
          clear c5' c6' hT2 hlv hfl hb2
          go_wp2_with fail
          go_region_held3 (fun wz => wz.cell? ⟨g6, k, none⟩ = some (.slice LA en.fs.length lc) ∧ wz.cell? ⟨wr.heap.size, 3, none⟩ = some (.string o.path))
            ((first | exact HK3.out | exact HK4.out | assumption))
            (first | (go_at_call 13; (with_reducible refine HD.out.mono ?_); rintro e w3 ⟨lv, rfl, hown, hb3⟩; have HOWN := Lib.hid hown; have HB3 := Lib.hid (HB2.out.trans (((below_dr w2).trans (hb3.mono (Nat.le_refl _))).mono HB2.out.size)); have HJ3 := Lib.hid (HJ2d.out.move K hb3); have c3 := (HJ3.out.cells HEN.out); have hb3' := HBOX.out w3 HB3.out; have HBX3 := Lib.hid hb3; clear hb3 hown; have HK4 := Lib.hid (show w3.cell? ⟨g6, k, none⟩ = some (.slice LA en.fs.length lc) ∧ w3.cell? ⟨wr.heap.size, 3, none⟩ = some (.string o.path) from ⟨c3.2.1.trans (by rw [HLV.out]), hb3'.2.2.2.1⟩); clear c3 hb3'))
          have HE3 := Lib.hid (K.below HX2.out ((below_dr w2).trans (HBX3.out.mono (Nat.le_refl _))))
          obtain ⟨LB, lc2, hlv2, hat2⟩ := HOWN.out.form
          subst hlv2
          have HAT2 := Lib.hid hat2
          have HLF := Lib.hid (show (dropF en.fs o.path).length ≤ i1 by have := dropF_length_le en.fs o.path; have := HLE.out; have := HI1.out; omega)
          clear hat2 HX2
          have HBd := Lib.hid (show Below WB.heap.size WB w3.drew from (HB3.out).trans ((below_dr w3).mono (HB3.out).size))
          have HJd := Lib.hid ((HJ3.out).move K (below_dr w3))
          have HK6 := Lib.hid (HBOX.out _ HBd.out).2.2.2.1
          have HRA := Lib.hid (K.right_is o.path w3.drew (by have := HZ.out.2; omega))
          have HRR := Lib.hid fun (W : World) => ref_right o.path W (by have := HZ.out.2; omega)
          obtain ⟨rb, hrb⟩ : ∃ rb, rb = decide (RightP o.path) := ⟨_, rfl⟩
          rw [← hrb] at HRA HRR
          clear hrb
          clear q0 q3
          have q3 := HK6.out
          go_wp2_with fail
          go_region_held3 (fun wz => wz.cell? ⟨wr.heap.size, 3, none⟩ = some (.string o.path))
            ((first | exact HK6.out | exact HK7.out | assumption))
            (first | (go_at_call 14; (with_reducible refine HRA.out.mono ?_); rintro e w4 ⟨rfl, hb4⟩; have HB4 := Lib.hid (HBd.out.trans (hb4.mono HBd.out.size)); have HB34 := Lib.hid hb4; have HJ4 := Lib.hid (HJd.out.move K hb4); have HK7 := Lib.hid (HBOX.out w4 HB4.out).2.2.2.1; clear hb4) | (go_at_call 15; (with_reducible refine (HRR.out _).mono ?_); rintro e w5 ⟨rfl, hw5⟩; subst hw5))
          have HB35 := Lib.hid ((below_dr w3).trans (HB34.out.mono (Nat.le_refl _)))
          have HE4 := Lib.hid (show EntryOk T w4 x (.slice LB (dropF en.fs o.path).length lc2) (dropF en.fs o.path) from ⟨K.below HE3.out HB35.out, LB, lc2, rfl, HAT2.out.below HB35.out⟩)
          have HNE := Lib.hid (show es.length + 1 ≤ 100000 by have := HES.out.1; have := HI1.out; omega)
          go_wp2_with ((refine wpList_push_tree K KF 130 ⟨x, .slice LB (dropF en.fs o.path).length lc2, (dropF en.fs o.path)⟩ HJ4.out HE4.out rfl rfl HNE.out ?_))
          intro v5 w6 hj6
          have HJ6 := Lib.hid hj6
          clear hj6
          go_wp2_with ((refine wpList_push_list K KF 134 ⟨x, .slice LB (dropF en.fs o.path).length lc2, (dropF en.fs o.path)⟩ HJ6.out rfl rfl HNE.out ?_))
          intro v6 w7 hj7
          obtain ⟨hT7, A7, c7, e7, h7⟩ := hj7.each ⟨x, .slice LB (dropF en.fs o.path).length lc2, (dropF en.fs o.path)⟩ (by simp)
          have HAK := Lib.hid (alike_any F K (c := c7) hT7 h7 rfl path (by have := HPS.out; omega))
          obtain ⟨rfl, -, rfl⟩ := Value.slice.inj e7
          have HJ7 := Lib.hid hj7
          clear hj7 hT7 h7 e7
          go_wp2_with fail
          go_at_call 16
          (with_reducible refine HAK.out.mono ?_)
          rintro e w8 ⟨rfl, hb8⟩
          have HJ8 := Lib.hid (HJ7.out.move K hb8)
          clear hb8
          have hwi := HWI.out
          go_wp2_with fail
          exact ⟨⟨es ++ [⟨x, .slice LB (dropF en.fs o.path).length lc2, (dropF en.fs o.path)⟩], i1, rfl, Lib.hid ⟨HJ8.out, HI1.out.2.1, by have := HES.out.1; have := HI1.out; simp; omega, by simp, fun e he => by
            rcases List.mem_append.1 he with he | he
            · exact Nat.le_trans (HES.out.2.2 e he) (by have := HI1.out; omega)
            · rw [List.mem_singleton.1 he]; exact HLF.out⟩⟩, by simpa [intOf] using HI1.out.1⟩
      case neg =>
        have e2 : (o.kind == 2) = false := by rw [beq_eq_false_iff_ne]; exact hk2
        have hwi := HWI.out
        clear hk1 hk2
        go_wp2_with fail
        exact ⟨⟨es, i1, rfl, Lib.hid ⟨HJB.out, HI1.out.2.1, by have := HES.out.1; have := HI1.out; omega, HES.out.2.1, fun e he => Nat.le_trans (HES.out.2.2 e he) (by have := HI1.out; omega)⟩⟩, by simpa [intOf] using HI1.out.1⟩
end
end Go.Proofs.Ytcjbhjbjkfgphaa

/-
  The program's with: a node with one file more, or one set anew. Condition: the node is as the trees' nodes are, its files by rising paths.
-/
import Derived.Test.YtcjbhjbjkfgphaaNweave
import Derived.Test.YtcjbhjbjkfgphaaNchga
namespace Go.Proofs.Ytcjbhjbjkfgphaa
open Go.RowKit Go.Deep

theorem NT.rising : ∀ {h : Nat} {t : NT h} {lo hi : Nat}, NT.ok lo hi h t → RisingX (NT.flat h t) → RisingX (NT.files h t)
  | 0, _, _, _, _, hr => hr
  | _ + 1, (_, _), _, _, ho, hr => rising_weave (by rw [List.length_map]; exact ho.2.2.1) hr
theorem set_list {fs : List FX} {i : Nat} {o y : FX} (hx : fs[i]? = some o) (hp : o.f.path = y.f.path) (hr : RisingX fs) : (fs.take i ++ [y] ++ fs.drop (i + 1)).length = fs.length ∧ PutX fs y (fs.take i ++ [y] ++ fs.drop (i + 1)) := by
  have hi := (List.getElem?_eq_some_iff.1 hx).1
  refine ⟨by simp; omega, ?_⟩
  have hr' : RisingX (fs.take i ++ o :: fs.drop (i + 1)) := by rw [← split_at hx]; exact hr
  have := put_mid hr' hp
  rw [← split_at hx] at this
  rw [List.append_assoc, List.singleton_append]
  exact this
/-- A node's own file set anew. -/
theorem NT.setf {w : World} (y : FX) : ∀ {h : Nat} {t : NT h} {b i lo hi : Nat} {o : FX}, IsN w h t b → NT.ok lo hi h t → RisingX (NT.flat h t) → (NT.files h t)[i]? = some o → o.f.path = y.f.path →
    ∃ ad, NodeAt w b (NT.files h t) ad ∧ ∃ r : NT h, (∀ w' c, Below w.heap.size w w' → NodeAt w' c ((NT.files h t).take i ++ [y] ++ (NT.files h t).drop (i + 1)) ad → IsN w' h r c) ∧ PutX (NT.flat h t) y (NT.flat h r) ∧ (NT.files h r).length = (NT.files h t).length ∧ ∀ l u, l ≤ (NT.files h r).length → (NT.files h r).length ≤ u → NT.ok l u h r
  | 0, fs, b, i, _, _, o, ht, ho, hr, hx, hp => ⟨[], ht, (List.append (List.append (@List.take FX i fs) [y]) (@List.drop FX (i + 1) fs)), fun _ _ _ h => h, (set_list (fs := fs) hx hp hr).2, (set_list (fs := fs) hx hp hr).1, fun _ _ h1 h2 => ⟨h1, h2⟩⟩
  | h + 1, (fs, ks), b, i, _, _, o, ⟨ad, k1, k2, k3⟩, ⟨o1, o2, o3, o4⟩, hr, hx, hp => by
    have hx : fs[i]? = some o := hx
    have hl : (fs.take i ++ [y] ++ fs.drop (i + 1)).length = fs.length := by
      have := (List.getElem?_eq_some_iff.1 hx).1
      simp
      omega
    obtain ⟨A, k, B, hk, e1, e2⟩ := weave_set (kk := ks.map (NT.flat h)) (by rw [List.length_map]; exact o3) hx
    refine ⟨ad, k1, (fs.take i ++ [y] ++ fs.drop (i + 1), ks), fun w' c hb hc => ?_, ?_, hl, fun l u h1 h2 => ⟨h1, h2, by rw [hl]; exact o3, o4⟩⟩
    · have := KidsAre.below (show KidsAre w h ks ad from ⟨k2, k3⟩) hb
      exact ⟨ad, hc, this.1, this.2⟩
    · have e3 := e2 k y
      rw [show (ks.map (NT.flat h)).take i ++ [k] ++ (ks.map (NT.flat h)).drop (i + 1) = ks.map (NT.flat h) by rw [List.append_assoc, List.singleton_append, ← split_kk hk]] at e3
      show PutX (weave fs (ks.map (NT.flat h))) y (weave (fs.take i ++ [y] ++ fs.drop (i + 1)) (ks.map (NT.flat h)))
      rw [show NT.flat (h + 1) (fs, ks) = weave fs (ks.map (NT.flat h)) from rfl, e1, ← List.append_assoc] at hr
      rw [e3, e1, ← List.append_assoc, ← List.append_assoc]
      exact put_mid hr hp
/-- What with gives. -/
def WithIs (h : Nat) (t : NT h) (x : FX) (w : World) (e : Ending) (w' : World) : Prop := ∃ (r : NT h) (b : Nat), e = .returned (.pointer (some ⟨b, 0, none⟩)) ∧ IsN w' h r b ∧ PutX (NT.flat h t) x (NT.flat h r) ∧ (NT.files h t).length ≤ (NT.files h r).length ∧ (NT.files h r).length ≤ (NT.files h t).length + 1 ∧
  (∀ lo hi, lo ≤ (NT.files h r).length → (NT.files h r).length ≤ hi → NT.ok lo hi h r) ∧ Below w.heap.size w w'
theorem same_kids {w : World} {b : Nat} {fs : List FX} {ad bd : List Nat} (ha : NodeAt w b fs ad) (hb : NodeAt w b fs bd) : ad = bd := by
  obtain ⟨A1, c1, A2, c2, h1, _, _, _, h2⟩ := ha
  obtain ⟨B1, d1, B2, d2, k1, _, _, _, k2⟩ := hb
  rw [h1] at k1
  simp at k1
  obtain ⟨_, ⟨e2, e3, _⟩⟩ := k1
  subst e2
  refine List.ext_getElem? fun i => ?_
  by_cases hi : i < ad.length
  · have x1 := List.getElem?_eq_getElem hi
    have x2 := List.getElem?_eq_getElem (show i < bd.length by omega)
    obtain ⟨g, o, e, c⟩ := h2.cell (i := i) (v := ptrV ad[i]) (by rw [ksV, List.getElem?_map, x1]; rfl)
    obtain ⟨g', o', e', c'⟩ := k2.cell (i := i) (v := ptrV bd[i]) (by rw [ksV, List.getElem?_map, x2]; rfl)
    subst e
    cases e'
    rw [c] at c'
    simp [ptrV] at c'
    rw [x1, x2, c']
  · rw [List.getElem?_eq_none (by omega), List.getElem?_eq_none (by omega)]
theorem hd1 (w : World) (a : Obj) : (w.alloc a).drew.heap[w.heap.size]? = some a := heap_alloc_new w a

set_option maxRecDepth 100000 in
set_option maxHeartbeats 4000000 in
theorem with_step (x : FX) (h : Nat) (ih : ∀ h', h = h' + 1 → ∀ (t : NT h') (b : Nat) (w : World), IsN w h' t b → NT.ok 1 2 h' t → RisingX (NT.flat h' t) → Calls Try.prog 29 #[.pointer (some ⟨b, 0, none⟩), .agg #[.string x.f.path, .int .i64 x.f.ver, .pointer x.q]] w (WithIs h' t x w))
    (t : NT h) (b : Nat) (w : World) (ht : IsN w h t b) (ho : NT.ok 1 2 h t) (hr : RisingX (NT.flat h t)) :
    Calls Try.prog 29 #[.pointer (some ⟨b, 0, none⟩), .agg #[.string x.f.path, .int .i64 x.f.ver, .pointer x.q]] w (WithIs h t x w) := by
  obtain ⟨ad, hnode, hka, hk0⟩ := IsN.node ht ho
  have hfr := NT.rising ho hr
  have hfl := ho.len
  obtain ⟨n, en⟩ : ∃ n, n = (NT.files h t).length := ⟨_, rfl⟩
  obtain ⟨m, em⟩ : ∃ m, m = ad.length := ⟨_, rfl⟩
  have hbl := hnode.lt
  have hnode0 := hnode
  obtain ⟨A1, c1, A2, c2, hb, hc1, hc2, r1, r2⟩ := hnode
  rw [← en, ← em] at hb
  have HC := Lib.hid fun (W : World) (hW : Below w.heap.size w W) => show W.cell? ⟨b, 0, none⟩ = some (.slice A1 n c1) ∧ W.cell? ⟨b, 1, none⟩ = some (.slice A2 m c2) from
    ⟨(hW.cell (p := ⟨b, 0, none⟩) hbl).trans (obj_cell hb 0), (hW.cell (p := ⟨b, 1, none⟩) hbl).trans (obj_cell hb 1)⟩
  obtain ⟨WB, eWB⟩ : ∃ W, W = w.alloc (.cells #[.string x.f.path, .int .i64 x.f.ver, .pointer x.q] 68) := ⟨_, rfl⟩
  have hwb : Below w.heap.size w WB := by rw [eWB]; exact bl1 _ _
  have obx : WB.heap[w.heap.size]? = some (.cells #[.string x.f.path, .int .i64 x.f.ver, .pointer x.q] 68) := by rw [eWB]; exact heap_alloc_new w _
  have hsl : w.heap.size < WB.heap.size := by rw [eWB]; simp
  have HBX := Lib.hid fun (W : World) (hW : Below WB.heap.size WB W) => show (W.cell? ⟨w.heap.size, 0, none⟩ = some (.string x.f.path) ∧ W.cell? ⟨w.heap.size, 1, none⟩ = some (.int .i64 x.f.ver) ∧ W.cell? ⟨w.heap.size, 2, none⟩ = some (.pointer x.q)) ∧ W.cell? ⟨b, 0, none⟩ = some (.slice A1 n c1) ∧ W.cell? ⟨b, 1, none⟩ = some (.slice A2 m c2) from
    ⟨⟨(hW.cell (p := ⟨w.heap.size, 0, none⟩) hsl).trans (obj_cell obx 0), (hW.cell (p := ⟨w.heap.size, 1, none⟩) hsl).trans (obj_cell obx 1), (hW.cell (p := ⟨w.heap.size, 2, none⟩) hsl).trans (obj_cell obx 2)⟩, HC.out W (hwb.trans (hW.mono hwb.size))⟩
  have HP := Lib.hid (place_is x.f.path (hnode0.below hwb) hfr (by omega))
  obtain ⟨⟨y0, y1, y2⟩, y3, y4⟩ := HBX.out WB (Below.refl _ _)
  have HWB := Lib.hid hwb
  have HT := Lib.hid ht
  have HOK := Lib.hid ho
  have HR := Lib.hid hr
  have HN := Lib.hid hnode0
  have HFL := Lib.hid hfl
  have EN := Lib.hid en
  have EM := Lib.hid em
  have HKA := Lib.hid (And.intro hka hk0)
  have HR1 := Lib.hid (And.intro hc1 (And.intro r1 (And.intro hc2 r2)))
  have IH := Lib.hid ih
  rw [eWB] at HBX HP y0 y1 y2 y3 y4 HWB
  clear ht ho hr hnode0 hka hk0 hfr hfl hwb obx hsl eWB hb hbl en em hc1 r1 hc2 r2 HC ih
  go_enter Try.func29, Try.ntmps29
  go_wp2_with fail
  go_at_call 40
  (with_reducible refine HP.out.mono ?_)
  rintro e w1 ⟨i, th, rfl, hpl, hb1⟩
  have HBB := Lib.hid hb1
  have HB1 := Lib.hid (HWB.out.trans (hb1.mono HWB.out.size))
  have HPL := Lib.hid hpl
  clear y0 y1 y2 y3 y4
  obtain ⟨⟨y0, y1, y2⟩, y3, y4⟩ := HBX.out w1 hb1
  obtain ⟨i1, ei1⟩ : ∃ p, p = i + 1 := ⟨_, rfl⟩
  have hile : i ≤ n := by rw [EN.out]; exact hpl.le
  have hn2 : n ≤ 2 := by rw [EN.out]; exact HFL.out.2
  have q1 : IntKind.i64.wrap ((i : Int) + 1) = (i1 : Int) := by rw [show (i : Int) + 1 = (i1 : Int) by omega]; exact IntWalk.i64_in _ (by omega)
  cases th with
  | true =>
    obtain ⟨o, hx, hxp⟩ := hpl.is rfl
    obtain ⟨ad', hn', r, hmk, hput, hrl, hrok⟩ := NT.setf x HT.out HOK.out HR.out hx hxp
    have hin : i < n := by rw [EN.out]; exact (List.getElem?_eq_some_iff.1 hx).1
    have HSF := Lib.hid fun (W : World) (g : Nat) (hW : Below w.heap.size w W) (hg : W.heap[g]? = some (.cells #[.string x.f.path, .int .i64 x.f.ver, .pointer x.q] 68)) => splF (W := W) (A := A1) (B := some ⟨g, 0, none⟩) (n := n) (c := c1) (m := 1) (d := 1) (xs := NT.files h t) (ys := [x]) i i1 (by omega) (by omega) (by rw [EN.out]; exact HR1.out.1) EN.out rfl (by omega) (by omega) (HR1.out.2.1.below hW) (raw_one hg)
    have HMK := Lib.hid hmk
    have HRR := Lib.hid (And.intro hput (And.intro hrl hrok))
    have HN' := Lib.hid hn'
    have HI1 := Lib.hid ei1
    have HBD := Lib.hid (HBB.out.trans ((dl1 w1 (.cells #[.string x.f.path, .int .i64 x.f.ver, .pointer x.q] 68)).mono HBB.out.size))
    have HBE := Lib.hid (HBB.out.trans ((dl0 w1).mono HBB.out.size))
    have HWD := Lib.hid (HB1.out.trans ((dl1 w1 (.cells #[.string x.f.path, .int .i64 x.f.ver, .pointer x.q] 68)).mono HB1.out.size))
    have HLN := Lib.hid (show ((NT.files h t).take i ++ [x] ++ (NT.files h t).drop i1).length = i + 1 + (n - i1) from by
      have := EN.out
      simp
      omega)
    clear hpl hb1 hx hxp hmk hput hrl hrok hn' hin hile hn2 ei1
    go_wp2_with fail
    go_region_held3 (fun wx => (wx.cell? ⟨w.heap.size, 0, none⟩ = some (.string x.f.path) ∧ wx.cell? ⟨w.heap.size, 1, none⟩ = some (.int .i64 x.f.ver) ∧ wx.cell? ⟨w.heap.size, 2, none⟩ = some (.pointer x.q)) ∧ wx.cell? ⟨b, 0, none⟩ = some (.slice A1 n c1) ∧ wx.cell? ⟨b, 1, none⟩ = some (.slice A2 m c2))
      (first | assumption | exact ⟨⟨y0, y1, y2⟩, y3, y4⟩ | exact HBX.out _ HBB.out | exact HBX.out _ HBD.out | exact HBX.out _ HBE.out | exact HBX.out _ HB2.out | exact HBX.out _ (Below.alloc HB2.out HB2.out.size _))
      ((go_at_call 41; (with_reducible refine (HSF.out _ _ HWD.out (hd1 _ _)).mono ?_); rintro e w2 ⟨F, cf, rfl, hcf, hF, hb2⟩; have h12 := (dl1 w1 (.cells #[.string x.f.path, .int .i64 x.f.ver, .pointer x.q] 68)).trans (hb2.mono (dl1 w1 (.cells #[.string x.f.path, .int .i64 x.f.ver, .pointer x.q] 68)).size); have HB2 := Lib.hid (HBB.out.trans (h12.mono HBB.out.size)); have HW2 := Lib.hid (HB1.out.trans (h12.mono HB1.out.size)); have HF := Lib.hid (And.intro hcf hF); clear hcf hF hb2 h12))
    go_wp2_with fail
    go_ret
    have hb3 := bl1 w2 (.cells #[.slice F (i + 1 + (n - i1)) cf, .slice A2 m c2] 77)
    have hnew := heap_alloc_new w2 (.cells #[.slice F (i + 1 + (n - i1)) cf, .slice A2 m c2] 77)
    have hw3 := HW2.out.trans (hb3.mono HW2.out.size)
    have had : ad' = ad := same_kids HN'.out HN.out
    have hdi : (NT.files h t).drop (i + 1) = (NT.files h t).drop i1 := by rw [HI1.out]
    refine ⟨r, _, rfl, HMK.out _ _ hw3 ⟨F, cf, A2, c2, ?_, ?_, ?_, ?_, ?_⟩, HRR.out.1, ?_, ?_, HRR.out.2.2, hw3⟩
    · rw [hdi, HLN.out, had, ← EM.out]
      exact hnew
    · rw [hdi, HLN.out]
      exact HF.out.1
    · rw [had]
      exact HR1.out.2.2.1
    · rw [hdi]
      exact HF.out.2.below hb3
    · rw [had]
      exact HR1.out.2.2.2.below hw3
    · rw [HRR.out.2.1]
      exact Nat.le_refl _
    · rw [HRR.out.2.1]
      exact Nat.le_succ _
  | false =>
    cases h with
    | zero =>
      have hm0 : m = 0 := by rw [EM.out, HKA.out.2 rfl]; rfl
      subst hm0
      have HSF := Lib.hid fun (W : World) (g : Nat) (hW : Below w.heap.size w W) (hg : W.heap[g]? = some (.cells #[.string x.f.path, .int .i64 x.f.ver, .pointer x.q] 68)) => splF (W := W) (A := A1) (B := some ⟨g, 0, none⟩) (n := n) (c := c1) (m := 1) (d := 1) (xs := NT.files 0 t) (ys := [x]) i i (Nat.le_refl _) hile (by rw [EN.out]; exact HR1.out.1) EN.out rfl (by omega) (by omega) (HR1.out.2.1.below hW) (raw_one hg)
      have HBD := Lib.hid (HBB.out.trans ((dl1 w1 (.cells #[.string x.f.path, .int .i64 x.f.ver, .pointer x.q] 68)).mono HBB.out.size))
      have HBE := Lib.hid (HBB.out.trans ((dl0 w1).mono HBB.out.size))
      have HWD := Lib.hid (HB1.out.trans ((dl1 w1 (.cells #[.string x.f.path, .int .i64 x.f.ver, .pointer x.q] 68)).mono HB1.out.size))
      have HLN := Lib.hid (show ((NT.files 0 t).take i ++ [x] ++ (NT.files 0 t).drop i).length = i + 1 + (n - i) from by
        have := EN.out
        simp
        omega)
      have HNI := Lib.hid (show i ≤ n from hile)
      clear hpl hb1 hile hn2 ei1
      go_wp2_with fail
      go_region_held3 (fun wx => (wx.cell? ⟨w.heap.size, 0, none⟩ = some (.string x.f.path) ∧ wx.cell? ⟨w.heap.size, 1, none⟩ = some (.int .i64 x.f.ver) ∧ wx.cell? ⟨w.heap.size, 2, none⟩ = some (.pointer x.q)) ∧ wx.cell? ⟨b, 0, none⟩ = some (.slice A1 n c1) ∧ wx.cell? ⟨b, 1, none⟩ = some (.slice A2 0 c2))
        (first | assumption | exact ⟨⟨y0, y1, y2⟩, y3, y4⟩ | exact HBX.out _ HBB.out | exact HBX.out _ HBD.out | exact HBX.out _ HBE.out | exact HBX.out _ HB2.out | exact HBX.out _ (Below.alloc HB2.out HB2.out.size _))
        ((go_at_call 41; (with_reducible refine (HSF.out _ _ HWD.out (hd1 _ _)).mono ?_); rintro e w2 ⟨F, cf, rfl, hcf, hF, hb2⟩; have h12 := (dl1 w1 (.cells #[.string x.f.path, .int .i64 x.f.ver, .pointer x.q] 68)).trans (hb2.mono (dl1 w1 (.cells #[.string x.f.path, .int .i64 x.f.ver, .pointer x.q] 68)).size); have HB2 := Lib.hid (HBB.out.trans (h12.mono HBB.out.size)); have HW2 := Lib.hid (HB1.out.trans (h12.mono HB1.out.size)); have HF := Lib.hid (And.intro hcf hF); clear hcf hF hb2 h12))
      go_wp2_with fail
      go_ret
      have hb3 := bl1 w2 (.cells #[.slice F (i + 1 + (n - i)) cf, .slice none 0 0] 77)
      have hnew := heap_alloc_new w2 (.cells #[.slice F (i + 1 + (n - i)) cf, .slice none 0 0] 77)
      have hw3 := HW2.out.trans (hb3.mono HW2.out.size)
      have hle := EN.out
      have hni := HNI.out
      refine ⟨(List.append (List.append (@List.take FX i t) [x]) (@List.drop FX i t)), _, rfl, ⟨F, cf, none, 0, ?_, ?_, Nat.le_refl _, ?_, RawAt.nil _ _⟩, put_new HPL.out, ?_, ?_, fun lo hi h1 h2 => ⟨h1, h2⟩, hw3⟩
      · rw [show (List.append (List.append (@List.take FX i t) [x]) (@List.drop FX i t)).length = i + 1 + (n - i) from HLN.out]
        exact hnew
      · rw [show (List.append (List.append (@List.take FX i t) [x]) (@List.drop FX i t)).length = i + 1 + (n - i) from HLN.out]
        exact HF.out.1
      · exact HF.out.2.below hb3
      · rw [show (NT.files 0 (List.append (List.append (@List.take FX i t) [x]) (@List.drop FX i t))).length = i + 1 + (n - i) from HLN.out, ← EN.out]
        omega
      · rw [show (NT.files 0 (List.append (List.append (@List.take FX i t) [x]) (@List.drop FX i t))).length = i + 1 + (n - i) from HLN.out, ← EN.out]
        omega
    | succ h =>
      obtain ⟨fs, ks⟩ := t
      obtain ⟨ad2, hn2, hkl, hkids⟩ := HT.out
      have e2 : ad2 = ad := same_kids hn2 HN.out
      subst e2
      obtain ⟨_, _, o3, o4⟩ := HOK.out
      have hnf : n = fs.length := EN.out
      have hmk : m = ks.length := by rw [EM.out, hkl]
      have hik : i < ks.length := by omega
      obtain ⟨T0, hT0⟩ : ∃ t, ks[i]? = some t := ⟨ks[i]'hik, List.getElem?_eq_getElem _⟩
      obtain ⟨a0, ha0⟩ : ∃ a, ad2[i]? = some a := ⟨ad2[i]'(by rw [hkl]; exact hik), List.getElem?_eq_getElem _⟩
      have hk0 := hkids i T0 a0 hT0 ha0
      have ho0 := o4 T0 (List.mem_of_getElem? hT0)
      have hll : (ks.map (NT.flat h)).length = fs.length + 1 := by rw [List.length_map]; exact o3
      have hf0 : (ks.map (NT.flat h))[i]? = some (NT.flat h T0) := by rw [List.getElem?_map, hT0]; rfl
      have hr0 : RisingX (NT.flat h T0) := rising_kid hll hf0 HR.out
      obtain ⟨g2, o2, eA2, hcell⟩ := HR1.out.2.2.2.cell (i := i) (v := ptrV a0) (by rw [ksV, List.getElem?_map, ha0]; rfl)
      subst eA2
      have hkc : ∀ W, Below w.heap.size w W → W.cell? ⟨g2, o2 + i, none⟩ = some (.pointer (some ⟨a0, 0, none⟩)) := fun W hW => (hW.cell (p := ⟨g2, o2 + i, none⟩) (World.block_lt_of_cell? _ _ hcell)).trans hcell
      have HKC := Lib.hid fun (W : World) (hB : Below (w.alloc (.cells #[.string x.f.path, .int .i64 x.f.ver, .pointer x.q] 68)).heap.size (w.alloc (.cells #[.string x.f.path, .int .i64 x.f.ver, .pointer x.q] 68)) W) => (⟨HBX.out W hB, hkc W (HWB.out.trans (hB.mono HWB.out.size))⟩ : ((W.cell? ⟨w.heap.size, 0, none⟩ = some (.string x.f.path) ∧ W.cell? ⟨w.heap.size, 1, none⟩ = some (.int .i64 x.f.ver) ∧ W.cell? ⟨w.heap.size, 2, none⟩ = some (.pointer x.q)) ∧ W.cell? ⟨b, 0, none⟩ = some (.slice A1 n c1) ∧ W.cell? ⟨b, 1, none⟩ = some (.slice (some ⟨g2, o2, none⟩) m c2)) ∧ W.cell? ⟨g2, o2 + i, none⟩ = some (.pointer (some ⟨a0, 0, none⟩)))
      have y5 := (HKC.out w1 hb1).2
      have HIH := Lib.hid fun (W : World) (hW : Below w.heap.size w W) => IH.out h rfl T0 a0 W (hk0.below hW) ho0 hr0
      have HCH := Lib.hid fun (W : World) (T' : NT h) (k' : Nat) (hW : Below w.heap.size w W) (hT' : IsN W h T' k') (oT' : NT.ok 1 3 h T') => changed_a (h := h) (fs := fs) (ks := ks) (HT.out.below hW) HOK.out hik hT' oT'
      have HPUT := Lib.hid fun (T' : NT h) (hp : PutX (NT.flat h T0) x (NT.flat h T')) => put_kid hll hf0 HR.out HPL.out hp
      have HO0 := Lib.hid ho0.len
      have HBE := Lib.hid (HBB.out.trans ((dl0 w1).mono HBB.out.size))
      have HWE := Lib.hid (HB1.out.trans ((dl0 w1).mono HB1.out.size))
      have gm : ((m : Int) == 0) = false := by simp; omega
      have gmn : (m == 0) = false := by simp; omega
      have hi0 : (0 : Int) ≤ (i : Int) := by omega
      have hiI : (i : Int) < (m : Int) := by omega
      clear hpl hb1 hile hn2 ei1 q1 hkl hkids o3 o4 hnf hmk hik hT0 ha0 hk0 ho0 hll hf0 hr0 hcell hkc
      go_wp2_with fail
      go_region_held3 (fun wx => ((wx.cell? ⟨w.heap.size, 0, none⟩ = some (.string x.f.path) ∧ wx.cell? ⟨w.heap.size, 1, none⟩ = some (.int .i64 x.f.ver) ∧ wx.cell? ⟨w.heap.size, 2, none⟩ = some (.pointer x.q)) ∧ wx.cell? ⟨b, 0, none⟩ = some (.slice A1 n c1) ∧ wx.cell? ⟨b, 1, none⟩ = some (.slice (some ⟨g2, o2, none⟩) m c2)) ∧ wx.cell? ⟨g2, o2 + i, none⟩ = some (.pointer (some ⟨a0, 0, none⟩)))
        (first | assumption | exact ⟨⟨⟨y0, y1, y2⟩, y3, y4⟩, y5⟩ | exact HKC.out _ HBB.out | exact HKC.out _ HBE.out | exact HKC.out _ HB2.out | exact HKC.out _ HB3.out)
        (first
          | (go_at_call 29; (with_reducible refine (HIH.out _ HWE.out).mono ?_); rintro e w2 ⟨T', k', rfl, hT', hput, hl1, hl2, hok', hb2⟩; have HB2 := Lib.hid (HBE.out.trans (hb2.mono HBE.out.size)); have HW2 := Lib.hid (HWE.out.trans (hb2.mono HWE.out.size)); have HT' := Lib.hid hT'; have HP' := Lib.hid (HPUT.out T' hput); have HO' := Lib.hid (hok' 1 3 (Nat.le_trans HO0.out.1 hl1) (Nat.le_trans hl2 (Nat.succ_le_succ HO0.out.2))); clear hT' hput hl1 hl2 hok' hb2)
          | (go_at_call 42; (with_reducible refine (HCH.out _ _ _ HW2.out HT'.out HO'.out).mono ?_); rintro e w3 ⟨r, k3, rfl, hr1, hr2, hr3, hr4, hr5, _, hr6, hb3⟩; have HB3 := Lib.hid (HB2.out.trans (hb3.mono HB2.out.size)); have HW3 := Lib.hid (HW2.out.trans (hb3.mono HW2.out.size)); have HRR := Lib.hid (And.intro hr1 (And.intro hr2 (And.intro hr4 (And.intro hr5 hr6)))); clear hr1 hr2 hr3 hr4 hr5 hr6 hb3))
      go_wp2_with fail
      go_ret
      refine ⟨r, k3, rfl, HRR.out.1, ?_, HRR.out.2.2.2.1 HO'.out.len.1, HRR.out.2.2.1, HRR.out.2.2.2.2, HW3.out⟩
      have h := HP'.out
      rw [HRR.out.2.1, List.map_append, List.map_append, List.map_take, List.map_drop]
      exact h
theorem with_is (x : FX) : ∀ (h : Nat) (t : NT h) (b : Nat) (w : World), IsN w h t b → NT.ok 1 2 h t → RisingX (NT.flat h t) →
    Calls Try.prog 29 #[.pointer (some ⟨b, 0, none⟩), .agg #[.string x.f.path, .int .i64 x.f.ver, .pointer x.q]] w (WithIs h t x w)
  | 0 => fun t b w => with_step x 0 (fun h' e => by cases e) t b w
  | h + 1 => fun t b w => with_step x (h + 1) (fun h' e => by cases e; exact with_is x h) t b w
end Go.Proofs.Ytcjbhjbjkfgphaa

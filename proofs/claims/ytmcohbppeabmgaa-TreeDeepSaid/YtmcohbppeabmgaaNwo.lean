/-
  The program's without: a node without a file that is there. Condition: the node is as the trees' nodes are, its files by rising paths.
-/
import Derived.Test.YtmcohbppeabmgaaNwith
import Derived.Test.YtmcohbppeabmgaaNlast
import Derived.Test.YtmcohbppeabmgaaNchgb
namespace Go.Proofs.Ytmcohbppeabmgaa
open Go.RowKit Go.Deep

theorem changed_is {w : World} {h : Nat} {fs : List FX} {ks : List (NT h)} {b i k : Nat} {T : NT h} (hn : IsN w (h + 1) (fs, ks) b) (ho : NT.ok 1 2 (h + 1) (fs, ks)) (hi : i < ks.length) (hT : IsN w h T k) (oT : NT.ok 0 3 h T) :
    Calls Try.prog 44 #[.pointer (some ⟨b, 0, none⟩), .int .i64 (i : Int), .pointer (some ⟨k, 0, none⟩)] w (ChangedIs h fs (ks.take i ++ [T] ++ ks.drop (i + 1)) T w) := by
  by_cases h0 : (NT.files h T).length = 0
  · exact changed_b hn ho hi hT (oT.to (by omega) (by omega))
  · exact changed_a hn ho hi hT (oT.to (by omega) oT.len.2)
/-- What without gives. -/
def WithoutIs (h : Nat) (t : NT h) (p : ByteArray) (w : World) (e : Ending) (w' : World) : Prop := ∃ (r : NT h) (b : Nat), e = .returned (.pointer (some ⟨b, 0, none⟩)) ∧ IsN w' h r b ∧ CutX (NT.flat h t) p (NT.flat h r) ∧ (NT.files h t).length ≤ (NT.files h r).length + 1 ∧ (NT.files h r).length ≤ (NT.files h t).length ∧
  (∀ lo hi, lo ≤ (NT.files h r).length → (NT.files h r).length ≤ hi → NT.ok lo hi h r) ∧ Below w.heap.size w w'
theorem cut_set {fs : List FX} {kk : List (List FX)} {i : Nat} {o f : FX} {c : List FX} (hl : kk.length = fs.length + 1) (ho : fs[i]? = some o) (hk : kk[i]? = some (c ++ [f])) (hr : RisingX (weave fs kk)) : CutX (weave fs kk) o.f.path (weave (fs.take i ++ [f] ++ fs.drop (i + 1)) (kk.take i ++ [c] ++ kk.drop (i + 1))) := by
  obtain ⟨A, k, B, h1, h2, h3⟩ := weave_set hl ho
  rw [hk] at h1
  cases h1
  rw [h3 c f]
  rw [h2] at hr ⊢
  have e1 : A ++ (c ++ [f] ++ o :: B) = (A ++ (c ++ [f])) ++ o :: B := by simp
  have e2 : A ++ (c ++ f :: B) = (A ++ (c ++ [f])) ++ B := by simp
  rw [e1] at hr ⊢
  rw [e2]
  exact cut_mid hr rfl
theorem cut_list {fs : List FX} {i : Nat} {o : FX} (hx : fs[i]? = some o) (hr : RisingX fs) : CutX fs o.f.path (fs.take i ++ [] ++ fs.drop (i + 1)) := by
  have hr' : RisingX (fs.take i ++ o :: fs.drop (i + 1)) := by rw [← split_at hx]; exact hr
  have := cut_mid hr' rfl
  rw [← split_at hx] at this
  rw [List.append_nil]
  exact this
theorem len_del {fs : List FX} {i i1 n : Nat} (hn : n = fs.length) (hi : i ≤ n) : (fs.take i ++ [] ++ fs.drop i1).length = i + 0 + (n - i1) := by
  simp
  omega
theorem not_there {fs : List FX} {p : ByteArray} {i : Nat} (h : PlaceIs fs p i false) : ∀ x ∈ fs, x.f.path ≠ p := fun x hx e => by
  rw [← List.take_append_drop i fs] at hx
  rcases List.mem_append.1 hx with hx | hx
  · have := h.lt x hx
    rw [e, pless_irrefl] at this
    cases this
  · have := h.no rfl x hx
    rw [e, pless_irrefl] at this
    cases this

set_option maxRecDepth 100000 in
set_option maxHeartbeats 4000000 in
theorem without_step (h : Nat) (ih : ∀ h', h = h' + 1 → ∀ (p : ByteArray) (t : NT h') (b : Nat) (w : World), IsN w h' t b → NT.ok 1 2 h' t → RisingX (NT.flat h' t) → (∃ x ∈ NT.flat h' t, x.f.path = p) → Calls Try.prog 33 #[.pointer (some ⟨b, 0, none⟩), .string p] w (WithoutIs h' t p w))
    (p : ByteArray) (t : NT h) (b : Nat) (w : World) (ht : IsN w h t b) (ho : NT.ok 1 2 h t) (hr : RisingX (NT.flat h t)) (hin : ∃ x ∈ NT.flat h t, x.f.path = p) :
    Calls Try.prog 33 #[.pointer (some ⟨b, 0, none⟩), .string p] w (WithoutIs h t p w) := by
  obtain ⟨ad, hnode, hka, hk0⟩ := IsN.node ht ho
  have hfr := NT.rising ho hr
  have hfl := ho.len
  obtain ⟨n, en⟩ : ∃ n, n = (NT.files h t).length := ⟨_, rfl⟩
  obtain ⟨m, em⟩ : ∃ m, m = ad.length := ⟨_, rfl⟩
  have hbl := hnode.lt
  have hnode0 := hnode
  obtain ⟨A1, c1, A2, c2, hb, hc1, hc2, r1, r2⟩ := hnode
  rw [← en, ← em] at hb
  have HC := Lib.hid fun (W : World) (hW : Below w.heap.size w W) => show W.cell? ⟨b, 0, none⟩ = some (.slice A1 n c1) ∧ W.cell? ⟨b, 1, none⟩ = some (.slice A2 m c2) from
    ⟨(hW.cell (p := ⟨b, 0, none⟩) hbl).trans (obj_cell hb 0), (hW.cell (p := ⟨b, 1, none⟩) hbl).trans (obj_cell hb 1)⟩
  have HP := Lib.hid (place_is p hnode0 hfr (by omega))
  have HT := Lib.hid ht
  have HOK := Lib.hid ho
  have HR := Lib.hid hr
  have HN := Lib.hid hnode0
  have HFL := Lib.hid hfl
  have EN := Lib.hid en
  have EM := Lib.hid em
  have HKA := Lib.hid (And.intro hka hk0)
  have HR1 := Lib.hid (And.intro hc1 (And.intro r1 (And.intro hc2 r2)))
  have IH := Lib.hid ih
  have HIN := Lib.hid hin
  clear ht ho hr hnode0 hka hk0 hfr hfl hb hbl en em hc1 r1 hc2 r2 ih hin
  go_enter Try.func33, Try.ntmps33
  go_wp2_with fail
  go_at_call 42
  (with_reducible refine HP.out.mono ?_)
  rintro e w1 ⟨i, th, rfl, hpl, hb1⟩
  have HB1 := Lib.hid hb1
  have HPL := Lib.hid hpl
  obtain ⟨y3, y4⟩ := HC.out w1 hb1
  obtain ⟨i1, ei1⟩ : ∃ q, q = i + 1 := ⟨_, rfl⟩
  have hile : i ≤ n := by rw [EN.out]; exact hpl.le
  have hn2 : n ≤ 2 := by rw [EN.out]; exact HFL.out.2
  have q1 : IntKind.i64.wrap ((i : Int) + 1) = (i1 : Int) := by rw [show (i : Int) + 1 = (i1 : Int) by omega]; exact IntWalk.i64_in _ (by omega)
  cases h with
  | zero =>
    have hm0 : m = 0 := by rw [EM.out, HKA.out.2 rfl]; rfl
    subst hm0
    have hth : th = true := by
      cases th with
      | true => rfl
      | false =>
        obtain ⟨x, hx, hxp⟩ := HIN.out
        exact absurd hxp (not_there hpl x hx)
    subst hth
    obtain ⟨o, hx, hxp⟩ := hpl.is rfl
    have hlt : i < n := by rw [EN.out]; exact (List.getElem?_eq_some_iff.1 hx).1
    have HSF := Lib.hid (splF (W := w1) (A := A1) (B := none) (n := n) (c := c1) (m := 0) (d := 0) (xs := NT.files 0 t) (ys := []) i i1 (by omega) (by omega) (by rw [EN.out]; exact HR1.out.1) EN.out rfl (by omega) (by omega) (HR1.out.2.1.below hb1) (RawAt.nil _ _))
    have HLN := Lib.hid (show (@List.append FX (List.append (@List.take FX i t) []) (@List.drop FX i1 t)).length = i + 0 + (n - i1) from len_del EN.out hile)
    have HI1 := Lib.hid ei1
    have HNI := Lib.hid hlt
    have HX := Lib.hid hx
    subst hxp
    clear hpl hb1 hile hn2 ei1 hx hlt
    go_wp2_with fail
    go_at_call 43
    (with_reducible refine HSF.out.mono ?_)
    rintro e w2 ⟨F, cf, rfl, hcf, hF, hb2⟩
    have HW2 := Lib.hid (HB1.out.trans (hb2.mono HB1.out.size))
    have HF := Lib.hid (And.intro hcf hF)
    obtain ⟨nf, enf⟩ : ∃ q, q = i + 0 + (n - i1) := ⟨_, rfl⟩
    rw [← enf] at HF HLN ⊢
    have ENF := Lib.hid enf
    clear hcf hF hb2 enf
    go_wp2_with fail
    go_ret
    have hb3 := bl1 w2 (.cells #[.slice F nf cf, .slice none 0 0] 79)
    have hnew := heap_alloc_new w2 (.cells #[.slice F nf cf, .slice none 0 0] 79)
    have hw3 := HW2.out.trans (hb3.mono HW2.out.size)
    have henf := ENF.out
    have hen : n = (NT.files 0 t).length := EN.out
    have hni := HNI.out
    have hei := HI1.out
    have hcut := cut_list HX.out (show RisingX (show List FX from t) from HR.out)
    rw [← hei] at hcut
    refine ⟨(@List.append FX (List.append (@List.take FX i t) []) (@List.drop FX i1 t)), _, rfl, ⟨F, cf, none, 0, ?_, ?_, Nat.le_refl _, HF.out.2.below hb3, RawAt.nil _ _⟩, hcut, ?_, ?_, fun lo hi h1 h2 => ⟨h1, h2⟩, hw3⟩
    · rw [HLN.out]
      exact hnew
    · rw [HLN.out]
      exact HF.out.1
    · rw [show (NT.files 0 (@List.append FX (List.append (@List.take FX i t) []) (@List.drop FX i1 t))).length = nf from HLN.out]
      omega
    · rw [show (NT.files 0 (@List.append FX (List.append (@List.take FX i t) []) (@List.drop FX i1 t))).length = nf from HLN.out]
      omega
  | succ h =>
    obtain ⟨fs, ks⟩ := t
    obtain ⟨ad2, hn2', hkl, hkids⟩ := HT.out
    have e2 : ad2 = ad := same_kids hn2' HN.out
    subst e2
    obtain ⟨o1, o2, o3, o4⟩ := HOK.out
    have hnf : n = fs.length := EN.out
    have hmk : m = ks.length := by rw [EM.out, hkl]
    have hik : i < ks.length := by omega
    obtain ⟨T0, hT0⟩ : ∃ t, ks[i]? = some t := ⟨ks[i]'hik, List.getElem?_eq_getElem _⟩
    obtain ⟨a0, ha0⟩ : ∃ a, ad2[i]? = some a := ⟨ad2[i]'(by rw [hkl]; exact hik), List.getElem?_eq_getElem _⟩
    have hk0 := hkids i T0 a0 hT0 ha0
    have ho0 := o4 T0 (List.mem_of_getElem? hT0)
    have hll : (ks.map (NT.flat h)).length = fs.length + 1 := by rw [List.length_map]; exact o3
    have hf0 : (ks.map (NT.flat h))[i]? = some (NT.flat h T0) := by rw [List.getElem?_map, hT0]; rfl
    have hr0 : RisingX (NT.flat h T0) := rising_kid hll hf0 HR.out
    obtain ⟨g2, o2', eA2, hcell⟩ := HR1.out.2.2.2.cell (i := i) (v := ptrV a0) (by rw [ksV, List.getElem?_map, ha0]; rfl)
    subst eA2
    have HKC := Lib.hid fun (W : World) (hW : Below w.heap.size w W) => (⟨(HC.out W hW).1, (HC.out W hW).2, (hW.cell (p := ⟨g2, o2' + i, none⟩) (World.block_lt_of_cell? _ _ hcell)).trans hcell⟩ : W.cell? ⟨b, 0, none⟩ = some (.slice A1 n c1) ∧ W.cell? ⟨b, 1, none⟩ = some (.slice (some ⟨g2, o2', none⟩) m c2) ∧ W.cell? ⟨g2, o2' + i, none⟩ = some (.pointer (some ⟨a0, 0, none⟩)))
    obtain ⟨_, _, y5⟩ := HKC.out w1 hb1
    have HIH := Lib.hid fun (q : ByteArray) (W : World) (hW : Below w.heap.size w W) (hq : ∃ x ∈ NT.flat h T0, x.f.path = q) => IH.out h rfl q T0 a0 W (hk0.below hW) ho0 hr0 hq
    have HO0 := Lib.hid ho0.len
    have gm : ((m : Int) == 0) = false := by simp; omega
    have gmn : (m == 0) = false := by simp; omega
    have hi0 : (0 : Int) ≤ (i : Int) := by omega
    have hiI : (i : Int) < (m : Int) := by omega
    cases th with
    | false =>
      have hin0 : ∃ x ∈ NT.flat h T0, x.f.path = p := by
        obtain ⟨x, hx, hxp⟩ := HIN.out
        exact ⟨x, in_kid hll hf0 HR.out hpl hx hxp, hxp⟩
      have HIH1 := Lib.hid (HIH.out p w1 hb1 hin0)
      have HCH := Lib.hid fun (W : World) (T' : NT h) (k' : Nat) (hW : Below w.heap.size w W) (hT' : IsN W h T' k') (oT' : NT.ok 0 3 h T') => changed_is (h := h) (fs := fs) (ks := ks) (HT.out.below hW) HOK.out hik hT' oT'
      have HCUT := Lib.hid fun (T' : NT h) (hp : CutX (NT.flat h T0) p (NT.flat h T')) => cut_kid hll hf0 HR.out HPL.out hp
      clear hpl hb1 hile hn2 hn2' ei1 q1 hkl hkids o1 o2 o3 o4 hnf hmk hik hT0 ha0 hk0 ho0 hll hf0 hr0 hcell hin0
      go_wp2_with fail
      go_at_call 33
      (with_reducible refine HIH1.out.mono ?_)
      rintro e w2 ⟨T', k', rfl, hT', hcut, hl1, hl2, hok', hb2⟩
      have HW2 := Lib.hid (HB1.out.trans (hb2.mono HB1.out.size))
      have HT' := Lib.hid hT'
      have HP' := Lib.hid (HCUT.out T' hcut)
      have HO' := Lib.hid (hok' 0 3 (Nat.zero_le _) (Nat.le_trans hl2 (Nat.le_trans HO0.out.2 (Nat.le_succ 2)))); have HO2 := Lib.hid (Nat.le_trans hl2 HO0.out.2)
      clear hT' hcut hl1 hl2 hok' hb2
      go_wp2_with fail
      go_at_call 44
      (with_reducible refine (HCH.out _ _ _ HW2.out HT'.out HO'.out).mono ?_)
      rintro e w3 ⟨r, k3, rfl, hr1, hr2, hr3, _, _, hr5b, hr6, hb3⟩
      have HW3 := Lib.hid (HW2.out.trans (hb3.mono HW2.out.size))
      have HRR := Lib.hid (And.intro hr1 (And.intro hr2 (And.intro hr3 (And.intro (hr5b HO2.out) hr6))))
      clear hr1 hr2 hr3 hr5b hr6 hb3
      go_wp2_with fail
      go_ret
      refine ⟨r, k3, rfl, HRR.out.1, ?_, HRR.out.2.2.1, HRR.out.2.2.2.1, HRR.out.2.2.2.2, HW3.out⟩
      have h := HP'.out
      rw [HRR.out.2.1, List.map_append, List.map_append, List.map_take, List.map_drop]
      exact h
    | true =>
      obtain ⟨o, hx, hxp⟩ := hpl.is rfl
      have hx : fs[i]? = some o := hx
      have hlt : i < n := by rw [hnf]; exact (List.getElem?_eq_some_iff.1 hx).1
      subst hxp
      have HLAST := Lib.hid (last_is (hk0.below hb1) ho0)
      have HNF := Lib.hid (And.intro hnf hlt)
      have HSF := Lib.hid fun (f : FX) (W : World) (g : Nat) (hW : Below w.heap.size w W) (hg : W.heap[g]? = some (.cells #[.string f.f.path, .int .i64 f.f.ver, .pointer f.q] 70)) => splF (W := W) (A := A1) (B := some ⟨g, 0, none⟩) (n := n) (c := c1) (m := 1) (d := 1) (xs := fs) (ys := [f]) i i1 (by omega) (by omega) (by rw [hnf]; exact HR1.out.1) hnf rfl (by omega) (by omega) (HR1.out.2.1.below hW) (raw_one hg)
      have HKS := Lib.hid (show KidsAre w h ks ad2 from ⟨hkl, hkids⟩)
      have HOKS := Lib.hid (And.intro o3 o4)
      have HCUT := Lib.hid fun (c : List FX) (f : FX) (e : NT.flat h T0 = c ++ [f]) => cut_set hll hx (by rw [hf0, e]) HR.out
      have HI1 := Lib.hid ei1
      have HIK := Lib.hid hik
      have HRT := Lib.hid hr0
      clear hpl hb1 hile hn2 hn2' ei1 hkl hkids o1 o2 o3 o4 hnf hmk hik hT0 ha0 hk0 ho0 hll hf0 hr0 hcell hx hlt
      go_wp2_with fail
      go_at_call 46
      (with_reducible refine HLAST.out.mono ?_)
      rintro e w2 ⟨c, f, hcf, rfl, hb2⟩
      have HCF := Lib.hid hcf
      have HB2 := Lib.hid (HB1.out.trans (hb2.mono HB1.out.size))
      obtain ⟨W3, eW3⟩ : ∃ W, W = w2.alloc (.cells #[.string f.f.path, .int .i64 f.f.ver, .pointer f.q] 70) := ⟨_, rfl⟩
      have hb3 : Below w2.heap.size w2 W3 := by rw [eW3]; exact bl1 _ _
      have hof : W3.heap[w2.heap.size]? = some (.cells #[.string f.f.path, .int .i64 f.f.ver, .pointer f.q] 70) := by rw [eW3]; exact heap_alloc_new w2 _
      have hs3 : w2.heap.size < W3.heap.size := by rw [eW3]; simp
      have HW3 := Lib.hid (HB2.out.trans (hb3.mono HB2.out.size))
      have HFC := Lib.hid fun (W : World) (hW : Below W3.heap.size W3 W) => (⟨HKC.out W (HW3.out.trans (hW.mono HW3.out.size)), (hW.cell (p := ⟨w2.heap.size, 0, none⟩) hs3).trans (obj_cell hof 0), (hW.cell (p := ⟨w2.heap.size, 1, none⟩) hs3).trans (obj_cell hof 1), (hW.cell (p := ⟨w2.heap.size, 2, none⟩) hs3).trans (obj_cell hof 2)⟩ : (W.cell? ⟨b, 0, none⟩ = some (.slice A1 n c1) ∧ W.cell? ⟨b, 1, none⟩ = some (.slice (some ⟨g2, o2', none⟩) m c2) ∧ W.cell? ⟨g2, o2' + i, none⟩ = some (.pointer (some ⟨a0, 0, none⟩))) ∧ W.cell? ⟨w2.heap.size, 0, none⟩ = some (.string f.f.path) ∧ W.cell? ⟨w2.heap.size, 1, none⟩ = some (.int .i64 f.f.ver) ∧ W.cell? ⟨w2.heap.size, 2, none⟩ = some (.pointer f.q))
      obtain ⟨⟨x3, x4, x5⟩, t0, t1, t2⟩ := HFC.out W3 (Below.refl _ _)
      have HRW := Lib.hid (Below.refl W3.heap.size W3)
      have HRD := Lib.hid (dl0 W3)
      have HRA := Lib.hid (dl1 W3 (.cells #[.string f.f.path, .int .i64 f.f.ver, .pointer f.q] 70))
      have HWA := Lib.hid (HW3.out.trans (HRA.out.mono HW3.out.size))
      have hs3e : W3.heap.size = w2.heap.size + 1 := by rw [eW3]; simp
      have HWG := Lib.hid (show (W3.alloc (.cells #[.string f.f.path, .int .i64 f.f.ver, .pointer f.q] 70)).drew.heap[w2.heap.size + 1]? = some (.cells #[.string f.f.path, .int .i64 f.f.ver, .pointer f.q] 70) from by
        have h := hd1 W3 (.cells #[.string f.f.path, .int .i64 f.f.ver, .pointer f.q] 70)
        rw [hs3e] at h
        exact h)
      clear hs3e
      rw [eW3] at HFC x3 x4 x5 t0 t1 t2 HRW HRD HRA HWA HWG HW3
      clear hb2 hcf hb3 hof hs3 y3 y4 y5 eW3
      go_wp2_with fail
      go_region_held3 (fun wx => (wx.cell? ⟨b, 0, none⟩ = some (.slice A1 n c1) ∧ wx.cell? ⟨b, 1, none⟩ = some (.slice (some ⟨g2, o2', none⟩) m c2) ∧ wx.cell? ⟨g2, o2' + i, none⟩ = some (.pointer (some ⟨a0, 0, none⟩))) ∧ wx.cell? ⟨w2.heap.size, 0, none⟩ = some (.string f.f.path) ∧ wx.cell? ⟨w2.heap.size, 1, none⟩ = some (.int .i64 f.f.ver) ∧ wx.cell? ⟨w2.heap.size, 2, none⟩ = some (.pointer f.q))
        (first | assumption | exact ⟨⟨x3, x4, x5⟩, t0, t1, t2⟩ | exact HFC.out _ HRW.out | exact HFC.out _ HRD.out | exact HFC.out _ HRA.out | exact HFC.out _ HB4.out | exact HFC.out _ (Below.alloc HB4.out HB4.out.size _))
        ((go_at_call 43; (with_reducible refine (HSF.out f _ _ HWA.out HWG.out).mono ?_); rintro e w4 ⟨F, cf, rfl, hcf', hF, hb4⟩; have HB4 := Lib.hid (HRA.out.trans (hb4.mono HRA.out.size)); have HW4 := Lib.hid (HWA.out.trans (hb4.mono HWA.out.size)); have HF := Lib.hid (And.intro hcf' hF); clear hcf' hF hb4))
      go_wp2_with fail
      obtain ⟨nf, enf⟩ : ∃ q, q = i + 1 + (n - i1) := ⟨_, rfl⟩
      rw [← enf] at HF ⊢
      obtain ⟨W5, eW5⟩ : ∃ W, W = w4.alloc (.cells #[.slice F nf cf, .slice (some ⟨g2, o2', none⟩) m c2] 79) := ⟨_, rfl⟩
      have hb5 : Below w4.heap.size w4 W5 := by rw [eW5]; exact bl1 _ _
      have hnew : W5.heap[w4.heap.size]? = some (.cells #[.slice F nf cf, .slice (some ⟨g2, o2', none⟩) m c2] 79) := by rw [eW5]; exact heap_alloc_new w4 _
      have hw5 := HW4.out.trans (hb5.mono HW4.out.size)
      have hnl : (fs.take i ++ [f] ++ fs.drop (i + 1)).length = fs.length := by
        have := HNF.out
        simp
        omega
      have hnf2 : nf = fs.length := by
        have := HNF.out
        have := HI1.out
        omega
      have hat : NodeAt W5 w4.heap.size (fs.take i ++ [f] ++ fs.drop (i + 1)) ad2 := ⟨F, cf, some ⟨g2, o2', none⟩, c2, by rw [hnl, ← hnf2, ← EM.out]; exact hnew, by rw [hnl, ← hnf2]; exact HF.out.1, HR1.out.2.2.1, by rw [← HI1.out]; exact HF.out.2.below hb5, HR1.out.2.2.2.below hw5⟩
      have HMOV := Lib.hid (show IsN W5 (h + 1) (fs.take i ++ [f] ++ fs.drop (i + 1), ks) w4.heap.size from ⟨ad2, hat, (HKS.out.below hw5).1, (HKS.out.below hw5).2⟩)
      have HMOK := Lib.hid (show NT.ok 1 2 (h + 1) (fs.take i ++ [f] ++ fs.drop (i + 1), ks) from ⟨by rw [hnl]; exact HFL.out.1, by rw [hnl]; exact HFL.out.2, by rw [hnl]; exact HOKS.out.1, HOKS.out.2⟩)
      have HCH := Lib.hid fun (W : World) (T' : NT h) (k' : Nat) (hW : Below W5.heap.size W5 W) (hT' : IsN W h T' k') (oT' : NT.ok 0 3 h T') => changed_is (h := h) (HMOV.out.below hW) HMOK.out HIK.out hT' oT'
      have HIH2 := Lib.hid (HIH.out f.f.path W5.drew (hw5.trans ((dl0 W5).mono hw5.size)) ⟨f, by rw [HCF.out]; simp, rfl⟩)
      have HNL := Lib.hid hnl
      have HW5 := Lib.hid hw5
      have HD5 := Lib.hid (dl0 W5)
      have HB5 := Lib.hid (HB4.out.trans (hb5.mono HB4.out.size))
      clear x3 x4 x5 t0 t1 t2
      obtain ⟨⟨x3, x4, x5⟩, t0, t1, t2⟩ := HFC.out W5 HB5.out
      have HB6 := Lib.hid (HB5.out.trans (HD5.out.mono HB5.out.size))
      clear enf hb5 hnew hw5 hnl hnf2 hat
      rw [← eW5]
      clear eW5
      go_region_held3 (fun wx => (wx.cell? ⟨b, 0, none⟩ = some (.slice A1 n c1) ∧ wx.cell? ⟨b, 1, none⟩ = some (.slice (some ⟨g2, o2', none⟩) m c2) ∧ wx.cell? ⟨g2, o2' + i, none⟩ = some (.pointer (some ⟨a0, 0, none⟩))) ∧ wx.cell? ⟨w2.heap.size, 0, none⟩ = some (.string f.f.path) ∧ wx.cell? ⟨w2.heap.size, 1, none⟩ = some (.int .i64 f.f.ver) ∧ wx.cell? ⟨w2.heap.size, 2, none⟩ = some (.pointer f.q))
        (first | assumption | exact ⟨⟨x3, x4, x5⟩, t0, t1, t2⟩ | exact HFC.out _ HB5.out | exact HFC.out _ HB6.out | exact HFC.out _ HB7.out | exact HFC.out _ HB8.out)
        (first
          | (go_at_call 33; (with_reducible refine HIH2.out.mono ?_); rintro e w6 ⟨T', k', rfl, hT', hcut, hl1, hl2, hok', hb7⟩; have HB7 := Lib.hid (HB6.out.trans (hb7.mono HB6.out.size)); have HD7 := Lib.hid (HD5.out.trans (hb7.mono HD5.out.size)); have HT' := Lib.hid hT'; have HP' := Lib.hid hcut; have HO' := Lib.hid (hok' 0 3 (Nat.zero_le _) (Nat.le_trans hl2 (Nat.le_trans HO0.out.2 (Nat.le_succ 2)))); have HO2 := Lib.hid (Nat.le_trans hl2 HO0.out.2); clear hT' hcut hl1 hl2 hok' hb7)
          | (go_at_call 44; (with_reducible refine (HCH.out _ _ _ HD7.out HT'.out HO'.out).mono ?_); rintro e w7 ⟨r, k3, rfl, hr1, hr2, hr3, _, _, hr5b, hr6, hb8⟩; have HB8 := Lib.hid (HB7.out.trans (hb8.mono HB7.out.size)); have HD8 := Lib.hid (HD7.out.trans (hb8.mono HD7.out.size)); have HRR := Lib.hid (And.intro hr1 (And.intro hr2 (And.intro hr3 (And.intro (hr5b HO2.out) hr6)))); clear hr1 hr2 hr3 hr5b hr6 hb8))
      go_wp2_with fail
      go_ret
      have hlen := HNL.out
      have h3 := HRR.out.2.2.1
      have h4 := HRR.out.2.2.2.1
      rw [hlen] at h3 h4
      refine ⟨r, k3, rfl, HRR.out.1, ?_, h3, h4, HRR.out.2.2.2.2, HW5.out.trans (HD8.out.mono HW5.out.size)⟩
      have hc := HP'.out
      rw [HCF.out] at hc
      have hlast := CutX.last hc
      have h := HCUT.out c f HCF.out
      rw [HRR.out.2.1, List.map_append, List.map_append, List.map_take, List.map_drop, List.map_cons, List.map_nil, hlast]
      exact h
theorem without_is : ∀ (h : Nat) (p : ByteArray) (t : NT h) (b : Nat) (w : World), IsN w h t b → NT.ok 1 2 h t → RisingX (NT.flat h t) → (∃ x ∈ NT.flat h t, x.f.path = p) →
    Calls Try.prog 33 #[.pointer (some ⟨b, 0, none⟩), .string p] w (WithoutIs h t p w)
  | 0 => fun p t b w => without_step 0 (fun h' e => by cases e) p t b w
  | h + 1 => fun p t b w => without_step (h + 1) (fun h' e => by cases e; exact without_is h) p t b w
end Go.Proofs.Ytmcohbppeabmgaa

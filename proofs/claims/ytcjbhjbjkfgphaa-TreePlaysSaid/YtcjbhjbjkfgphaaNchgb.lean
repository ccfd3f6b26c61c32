/-
  What changed makes of a node whose kid has no files any more. Condition: the node is as the trees' nodes are.
-/
import Derived.Test.YtcjbhjbjkfgphaaNweave
namespace Go.Proofs.Ytcjbhjbjkfgphaa
open Go.RowKit Go.Deep

set_option maxRecDepth 100000 in
set_option maxHeartbeats 4000000 in
theorem changed_b {w : World} {h : Nat} {fs : List FX} {ks : List (NT h)} {b i k : Nat} {T : NT h} (hn : IsN w (h + 1) (fs, ks) b) (ho : NT.ok 1 2 (h + 1) (fs, ks)) (hi : i < ks.length) (hT : IsN w h T k) (oT : NT.ok 0 0 h T) :
    Calls Try.prog 42 #[.pointer (some ⟨b, 0, none⟩), .int .i64 (i : Int), .pointer (some ⟨k, 0, none⟩)] w (ChangedIs h fs (ks.take i ++ [T] ++ ks.drop (i + 1)) T w) := by
  obtain ⟨ad, hnode, hkl, hkids⟩ := hn
  obtain ⟨o1, o2, o3, o4⟩ := ho
  have hbl := hnode.lt
  have hfs := hnode
  obtain ⟨A7, c7, A2, c2, hb, hc7, hc2, r1, r2⟩ := hnode
  obtain ⟨n7, en7⟩ : ∃ p, p = fs.length := ⟨_, rfl⟩
  obtain ⟨n, en⟩ : ∃ p, p = ad.length := ⟨_, rfl⟩
  have hin : i < n := by rw [en, hkl]; exact hi
  have hn3 : n ≤ 3 := by rw [en, hkl]; omega
  rw [← en7, ← en] at hb
  obtain ⟨i1, ei1⟩ : ∃ p, p = i + 1 := ⟨_, rfl⟩
  have q1 : IntKind.i64.wrap ((i : Int) + 1) = (i1 : Int) := by rw [show (i : Int) + 1 = (i1 : Int) by omega]; exact IntWalk.i64_in _ (by omega)
  have hkall : KidsAre w h (ks.take i ++ [T] ++ ks.drop (i + 1)) (ad.take i ++ [k] ++ ad.drop (i + 1)) := ((KidsAre.take ⟨hkl, hkids⟩ i).append (KidsAre.one hT)).append (KidsAre.drop ⟨hkl, hkids⟩ (i + 1))
  have hklen : (ks.take i ++ [T] ++ ks.drop (i + 1)).length = fs.length + 1 := by simp; omega
  have hkt : (ks.take i ++ [T] ++ ks.drop (i + 1))[i]? = some T := by
    rw [List.append_assoc, List.getElem?_append_right (by rw [List.length_take]; omega), List.length_take, show i - min i ks.length = 0 by omega]
    rfl
  have hko : ∀ (j : Nat) (t : NT h), j ≠ i → (ks.take i ++ [T] ++ ks.drop (i + 1))[j]? = some t → NT.ok 1 2 h t := fun j t hj ht => by
    refine o4 t ?_
    by_cases hji : j < i
    · rw [List.append_assoc, List.getElem?_append_left (by rw [List.length_take]; omega), List.getElem?_take, if_pos hji] at ht
      exact List.mem_of_getElem? ht
    · rw [List.getElem?_append_right (by simp; omega), List.getElem?_drop] at ht
      exact List.mem_of_getElem? ht
  obtain ⟨KS, eKS⟩ : ∃ l, l = ks.take i ++ [T] ++ ks.drop (i + 1) := ⟨_, rfl⟩
  obtain ⟨AD, eAD⟩ : ∃ l, l = ad.take i ++ [k] ++ ad.drop (i + 1) := ⟨_, rfl⟩
  obtain ⟨WB, eWB⟩ : ∃ W, W = (w.alloc (.cells #[.pointer (some ⟨k, 0, none⟩)] 71)).drew := ⟨_, rfl⟩
  have hwb : Below w.heap.size w WB := by rw [eWB]; exact dl1 _ _
  have hgk : WB.heap[w.heap.size]? = some (.cells #[.pointer (some ⟨k, 0, none⟩)] 71) := by rw [eWB]; exact heap_alloc_new w _
  have hsk := splK (W := WB) (A := A2) (B := some ⟨w.heap.size, 0, none⟩) (c := c2) (m := 1) (d := 1) (xs := ad) (ys := [k]) i i1 (by omega) (by omega) (by rw [en]; exact hc2) en rfl (by omega) (by omega) (r2.below hwb) (raw_ks1 hgk)
  obtain ⟨n8, en8⟩ : ∃ p, p = i + 1 + (n - i1) := ⟨_, rfl⟩
  rw [← en8, ei1, ← eAD] at hsk
  rw [← ei1] at hsk
  have hn8 : n8 = AD.length := by rw [eAD, en8]; simp; omega
  rw [← eKS, ← eAD] at hkall
  rw [← eKS] at hklen hkt hko ⊢
  obtain ⟨adk, hnk, _, _⟩ := IsN.node hT oT
  obtain ⟨B1, d1, hB0, _, _, _⟩ := hnk.file
  obtain ⟨m, em⟩ : ∃ p, p = (NT.files h T).length := ⟨_, rfl⟩
  rw [← em] at hB0
  have HC := Lib.hid fun (W : World) (hW : Below w.heap.size w W) => show W.cell? ⟨b, 0, none⟩ = some (.slice A7 n7 c7) ∧ W.cell? ⟨b, 1, none⟩ = some (.slice A2 n c2) from
    ⟨(hW.cell (p := ⟨b, 0, none⟩) hbl).trans (obj_cell hb 0), (hW.cell (p := ⟨b, 1, none⟩) hbl).trans (obj_cell hb 1)⟩
  obtain ⟨f0, f1⟩ := HC.out w (Below.refl _ _)
  have HSK := Lib.hid hsk
  rw [eWB] at HSK
  have HWB := Lib.hid hwb
  rw [eWB] at HWB
  have HZ := Lib.hid hB0
  have hm0 : m = 0 := by rw [em]; have := oT.len.2; omega
  have g1 : decide ((m : Int) < 1) = true := by simp; omega
  have g1n : decide (m < 1) = true := by simp; omega
  obtain ⟨i2, ei2⟩ : ∃ p, p = i - 1 := ⟨_, rfl⟩
  obtain ⟨i3, ei3⟩ : ∃ p, p = i2 + 1 := ⟨_, rfl⟩
  obtain ⟨i4, ei4⟩ : ∃ p, p = i2 + 2 := ⟨_, rfl⟩
  obtain ⟨e0, ee0⟩ : ∃ e : Int, e = (i : Int) - 1 := ⟨_, rfl⟩
  have q2 : IntKind.i64.wrap ((i : Int) - 1) = e0 := by rw [← ee0]; exact IntWalk.i64_in _ (by omega)
  have q2m : max e0 0 = (i2 : Int) := by omega
  have q3 : IntKind.i64.wrap ((i2 : Int) + 1) = (i3 : Int) := by rw [show (i2 : Int) + 1 = (i3 : Int) by omega]; exact IntWalk.i64_in _ (by omega)
  have q4 : IntKind.i64.wrap ((i2 : Int) + 2) = (i4 : Int) := by rw [show (i2 : Int) + 2 = (i4 : Int) by omega]; exact IntWalk.i64_in _ (by omega)
  have hf2 : i2 < n7 := by rw [en7]; omega
  have hk2l : i3 < n8 := by rw [hn8, hkall.1, hklen]; omega
  obtain ⟨x, hx⟩ : ∃ x, fs[i2]? = some x := ⟨fs[i2]'(by omega), List.getElem?_eq_getElem _⟩
  obtain ⟨T1, hT1⟩ : ∃ t, KS[i2]? = some t := ⟨KS[i2]'(by rw [hklen]; omega), List.getElem?_eq_getElem _⟩
  obtain ⟨T2, hT2⟩ : ∃ t, KS[i2 + 1]? = some t := ⟨KS[i2 + 1]'(by rw [hklen]; omega), List.getElem?_eq_getElem _⟩
  obtain ⟨a1, ha1⟩ : ∃ a, AD[i2]? = some a := ⟨AD[i2]'(by rw [← hn8]; omega), List.getElem?_eq_getElem _⟩
  obtain ⟨a2, ha2⟩ : ∃ a, AD[i2 + 1]? = some a := ⟨AD[i2 + 1]'(by rw [← hn8]; omega), List.getElem?_eq_getElem _⟩
  have hok12 : NT.ok 0 2 h T1 ∧ NT.ok 0 2 h T2 ∧ 1 ≤ (NT.files h T1).length + (NT.files h T2).length ∧ (NT.files h T1).length + (NT.files h T2).length ≤ 2 := by
    by_cases hi0 : i = 0
    · have e1 : i2 = i := by omega
      rw [e1] at hT1 hT2
      rw [hkt] at hT1
      cases hT1
      have o := hko (i + 1) T2 (by omega) hT2
      have := oT.len
      have := o.len
      exact ⟨oT.to (by omega) (by omega), o.to (by omega) (by omega), by omega, by omega⟩
    · have e1 : i2 + 1 = i := by omega
      rw [e1] at hT2
      rw [hkt] at hT2
      cases hT2
      have o := hko i2 T1 (by omega) hT1
      have := oT.len
      have := o.len
      exact ⟨o.to (by omega) (by omega), oT.to (by omega) (by omega), by omega, by omega⟩
  have hoth : ∀ (j : Nat) (t : NT h), j ≠ i2 → j ≠ i2 + 1 → KS[j]? = some t → NT.ok 1 2 h t := fun j t h1 h2 ht => hko j t (by omega) ht
  have HX := Lib.hid hx
  have HT1 := Lib.hid (And.intro hT1 hT2)
  have HA1 := Lib.hid (And.intro ha1 ha2)
  have HOK12 := Lib.hid hok12
  have HOTH := Lib.hid hoth
  have HM0 := Lib.hid hm0
  have HFILE := Lib.hid hfs.file
  have HLENK := Lib.hid hklen
  have HKW := Lib.hid hkall
  have HI3 := Lib.hid ei3
  have HI4 := Lib.hid ei4
  have HI2 := Lib.hid (And.intro hf2 hk2l)
  have HSM0 := Lib.hid (show n7 ≤ 64 ∧ n8 ≤ 65 from ⟨by rw [en7]; omega, by rw [hn8, hkall.1, hklen]; omega⟩)
  have HF7W := Lib.hid (show n7 ≤ c7 ∧ n7 = fs.length ∧ RawAt w A7 (xsV fs) from ⟨by rw [en7]; exact hc7, en7, r1⟩)
  have HN8 := Lib.hid hn8
  have HOT := Lib.hid oT
  have hb8 : ∀ (W : World) (A8 : Option Addr), RawAt W A8 (ksV AD) → ∃ g o, A8 = some ⟨g, o, none⟩ ∧ W.cell? ⟨g, o + i2, none⟩ = some (.pointer (some ⟨a1, 0, none⟩)) ∧ W.cell? ⟨g, o + i3, none⟩ = some (.pointer (some ⟨a2, 0, none⟩)) := fun W A8 hr => by
    obtain ⟨g, o, e, h1⟩ := hr.cell (i := i2) (v := ptrV a1) (by simp [ksV, ha1])
    obtain ⟨g', o', e', h2⟩ := hr.cell (i := i3) (v := ptrV a2) (by rw [ei3]; simp [ksV, ha2])
    subst e
    cases e'
    exact ⟨g, o, rfl, h1, h2⟩
  have HB8 := Lib.hid hb8
  obtain ⟨g7, o7, rfl, hxc⟩ : ∃ g7 o7, A7 = some ⟨g7, o7, none⟩ ∧ ∀ W, Below w.heap.size w W → W.cell? ⟨g7, o7 + i2 * 3, none⟩ = some (.string x.f.path) ∧ W.cell? ⟨g7, o7 + i2 * 3 + 1, none⟩ = some (.int .i64 x.f.ver) ∧ W.cell? ⟨g7, o7 + i2 * 3 + 2, none⟩ = some (.pointer x.q) := by
    obtain ⟨A1', c1', hA1', _, _, hfile⟩ := hfs.file
    have := (hA1' w (Below.refl _ _)).symm.trans (obj_cell hb 0)
    rw [← en7] at this
    simp at this
    obtain ⟨g7, o7, e, hc⟩ := hfile i2 x hx
    exact ⟨g7, o7, this.1 ▸ e, hc⟩
  have HXC := Lib.hid hxc
  have gi2 : (0 : Int) ≤ (i2 : Int) := by omega
  have gi3 : (0 : Int) ≤ (i3 : Int) := by omega
  have gf2 : (i2 : Int) < (n7 : Int) := by omega
  have gk2 : (i2 : Int) < (n8 : Int) := by omega
  have gk3 : (i3 : Int) < (n8 : Int) := by omega
  clear hn3 hin hi hkl hkids o1 o2 o3 o4 hbl hfs hb hc7 hc2 r1 r2 en7 en ei1 hkall hklen hkt hko eKS eAD eWB hwb hgk hsk en8 hn8 hnk hB0 em hT oT hm0 ei2 ei3 ei4 ee0 hf2 hk2l hx hT1 hT2 ha1 ha2 hok12 hoth hb8 hxc
  go_enter Try.func42, Try.ntmps42
  go_wp2_with fail
  go_region_held3 (fun wx => wx.cell? ⟨b, 0, none⟩ = some (.slice (some ⟨g7, o7, none⟩) n7 c7) ∧ wx.cell? ⟨b, 1, none⟩ = some (.slice A2 n c2))
    (first | assumption | exact ⟨f0, f1⟩ | exact HC.out _ HWB.out | exact HC.out _ HB1.out | (refine HC.out _ ?_; (first | with_reducible exact dl0 _ | with_reducible exact dl1 _ _ | with_reducible exact bl1 _ _)))
    ((go_at_call 58; (with_reducible refine HSK.out.mono ?_); rintro e w1 ⟨A8, c8, rfl, hc8, hA8, hb1⟩; have HB1 := Lib.hid (HWB.out.trans (hb1.mono HWB.out.size)); have HA8 := Lib.hid (And.intro hc8 hA8); clear hc8 hA8 hb1))
  have z0 := HZ.out w1 HB1.out
  obtain ⟨g8, o8, rfl, kc8a, kc8b⟩ := HB8.out w1 A8 HA8.out.2
  obtain ⟨x0c, x1c, x2c⟩ := HXC.out w1 HB1.out
  have HCL := Lib.hid fun (W : World) (hW : Below w1.heap.size w1 W) => show W.cell? ⟨g8, o8 + i2, none⟩ = some (.pointer (some ⟨a1, 0, none⟩)) ∧ W.cell? ⟨g8, o8 + i3, none⟩ = some (.pointer (some ⟨a2, 0, none⟩)) ∧ W.cell? ⟨g7, o7 + i2 * 3, none⟩ = some (.string x.f.path) ∧ W.cell? ⟨g7, o7 + i2 * 3 + 1, none⟩ = some (.int .i64 x.f.ver) ∧ W.cell? ⟨g7, o7 + i2 * 3 + 2, none⟩ = some (.pointer x.q) from
    ⟨(hW.cell (p := ⟨g8, o8 + i2, none⟩) (World.block_lt_of_cell? _ _ kc8a)).trans kc8a, (hW.cell (p := ⟨g8, o8 + i3, none⟩) (World.block_lt_of_cell? _ _ kc8b)).trans kc8b, HXC.out W (HB1.out.trans (hW.mono HB1.out.size))⟩
  obtain ⟨ka, kb, hna, hnb, hka, hkb, V, hv1, hv2, hv3, hv4⟩ := NT.join x ((HKW.out.2 i2 T1 a1 HT1.out.1 HA1.out.1).below HB1.out) ((HKW.out.2 (i2 + 1) T2 a2 HT1.out.2 HA1.out.2).below HB1.out) HOK12.out.1 HOK12.out.2.1
  have hj1 := HOK12.out.1.len.2
  have hj2 := HOK12.out.2.1.len.2
  have HJ := Lib.hid fun (W : World) (hW : Below w1.heap.size w1 W) => joined_is x (hna.below hW) (hnb.below hW) (by omega) (by omega) (by omega) (by omega)
  have HV := Lib.hid (And.intro hv1 (And.intro hv2 (And.intro hv3 hv4)))
  have HD1 := Lib.hid (dl0 w1)
  clear hna hnb hka hkb hv1 hv2 hv3 hv4 hj1 hj2 f0 f1
  go_wp2_with fail
  go_region_held3 (fun wx => wx.cell? ⟨g8, o8 + i2, none⟩ = some (.pointer (some ⟨a1, 0, none⟩)) ∧ wx.cell? ⟨g8, o8 + i3, none⟩ = some (.pointer (some ⟨a2, 0, none⟩)) ∧ wx.cell? ⟨g7, o7 + i2 * 3, none⟩ = some (.string x.f.path) ∧ wx.cell? ⟨g7, o7 + i2 * 3 + 1, none⟩ = some (.int .i64 x.f.ver) ∧ wx.cell? ⟨g7, o7 + i2 * 3 + 2, none⟩ = some (.pointer x.q))
    (first | assumption | exact ⟨kc8a, kc8b, x0c, x1c, x2c⟩ | exact HCL.out _ HD1.out | exact HCL.out _ HB2.out)
    ((go_at_call 59; (with_reducible refine (HJ.out _ HD1.out).mono ?_); rintro e w2 ⟨k2, rfl, hk2, hb2⟩; have HB2 := Lib.hid (HD1.out.trans (hb2.mono HD1.out.size)); have HK2 := Lib.hid hk2; clear hk2 hb2))
  have HB12 := Lib.hid (HB1.out.trans (HB2.out.mono HB1.out.size))
  obtain ⟨n7b, en7b⟩ : ∃ p, p = i2 + 0 + (n7 - i3) := ⟨_, rfl⟩
  obtain ⟨n8b, en8b⟩ : ∃ p, p = i2 + 1 + (n8 - i4) := ⟨_, rfl⟩
  have hsf := (splF (W := w2) (A := some ⟨g7, o7, none⟩) (B := none) (c := c7) (m := 0) (d := 0) (xs := fs) (ys := []) i2 i3 (by have := HI3.out; omega) (by have := HI3.out; have := HI2.out.1; omega) HF7W.out.1 HF7W.out.2.1 rfl (by have := HSM0.out.1; omega) (by omega) (HF7W.out.2.2.below HB12.out) (RawAt.nil _ _))
  rw [← en7b] at hsf
  have HSF := Lib.hid hsf
  have HSK2 := Lib.hid fun (W : World) (g : Nat) (hW : Below w2.heap.size w2 W) (hg : W.heap[g]? = some (.cells #[.pointer (some ⟨k2, 0, none⟩)] 71)) => show Calls Try.prog 58 #[.slice (some ⟨g8, o8, none⟩) n8 c8, .int .i64 (i2 : Int), .int .i64 (i4 : Int), .slice (some ⟨g, 0, none⟩) 1 1] W (RowNew n8b (ksV (AD.take i2 ++ [k2] ++ AD.drop i4)) W) from en8b ▸ splK (W := W) (A := some ⟨g8, o8, none⟩) (B := some ⟨g, 0, none⟩) (c := c8) (m := 1) (d := 1) (xs := AD) (ys := [k2]) i2 i4 (by have := HI4.out; omega) (by have := HI4.out; have := HI3.out; have := HI2.out.2; omega) HA8.out.1 HN8.out rfl (by have := HSM0.out.2; omega) (by omega) (HA8.out.2.below (HB2.out.trans (hW.mono HB2.out.size))) (raw_ks1 hg)
  have EN7b := Lib.hid en7b
  have EN8b := Lib.hid en8b
  clear en7b en8b hsf
  go_wp2_with fail
  go_at_call 41
  (with_reducible refine HSF.out.mono ?_)
  rintro e w3 ⟨A7b, c7b, rfl, hc7b, hA7b, hb3⟩
  have HB3 := Lib.hid hb3
  have HA7b := Lib.hid (And.intro hc7b hA7b)
  clear hc7b hA7b hb3
  go_wp2_with fail
  go_at_call 58
  (with_reducible refine (HSK2.out _ _ (Below.alloc HB3.out HB3.out.size _) (heap_alloc_new _ _)).mono ?_)
  rintro e wc ⟨A8b, c8b, rfl, hc8b, hA8b, hb4⟩
  have h3c := (bl1 w3 _).trans (hb4.mono (bl1 w3 _).size)
  have h2c := HB3.out.trans (h3c.mono HB3.out.size)
  have h1c := HB2.out.trans (h2c.mono HB2.out.size)
  have hbc := HB1.out.trans (h1c.mono HB1.out.size)
  have hlt1 : i2 < KS.length := (List.getElem?_eq_some_iff.1 HT1.out.1).1
  have hlt2 : i2 + 1 < KS.length := (List.getElem?_eq_some_iff.1 HT1.out.2).1
  have hfl : i2 < fs.length := (List.getElem?_eq_some_iff.1 HX.out).1
  obtain ⟨KSb, eKSb⟩ : ∃ l, l = KS.take i2 ++ [V] ++ KS.drop (i2 + 2) := ⟨_, rfl⟩
  obtain ⟨ADb, eADb⟩ : ∃ l, l = AD.take i2 ++ [k2] ++ AD.drop i4 := ⟨_, rfl⟩
  obtain ⟨FSb, eFSb⟩ : ∃ l, l = fs.take i2 ++ [] ++ fs.drop i3 := ⟨_, rfl⟩
  rw [← eADb] at hA8b
  have hA7' := HA7b.out.2
  rw [← eFSb] at hA7'
  have hfb : FSb.length + 1 = fs.length := by rw [eFSb, HI3.out]; simp; omega
  have hiv := HV.out.2.2.2 wc k2 h1c (HK2.out.below h2c)
  have hkb0 := ((HKW.out.below hbc).take i2).append ((KidsAre.one hiv).append ((HKW.out.below hbc).drop (i2 + 2)))
  rw [← List.append_assoc, ← List.append_assoc, ← eKSb, show AD.take i2 ++ [k2] ++ AD.drop (i2 + 2) = ADb by rw [eADb, HI4.out]] at hkb0
  have hlb : KSb.length = FSb.length + 1 := by
    have := HLENK.out
    rw [eKSb]
    simp
    omega
  have HKIDSb := Lib.hid hkb0
  have HKIDb := Lib.hid hiv
  have HLENb := Lib.hid hlb
  have HFB := Lib.hid hfb
  have HWV := Lib.hid (show weave FSb (KSb.map (NT.flat h)) = weave fs (KS.map (NT.flat h)) from by
    rw [eFSb, eKSb, HI3.out, List.map_append, List.map_append, List.map_take, List.map_drop, List.map_cons, List.map_nil, HV.out.1]
    exact weave_del HX.out (by rw [List.length_map]; exact HLENK.out) (by rw [List.getElem?_map, HT1.out.1]; rfl) (by rw [List.getElem?_map, HT1.out.2]; rfl))
  have HTb := Lib.hid (show KSb[i2]? = some V from by
    rw [eKSb, List.append_assoc, List.getElem?_append_right (by rw [List.length_take]; omega), List.length_take, show i2 - min i2 KS.length = 0 by omega]
    rfl)
  have HOKSb := Lib.hid (show ∀ (j : Nat) (t : NT h), j ≠ i2 → KSb[j]? = some t → NT.ok 1 2 h t from fun j t hj ht => by
    rw [eKSb] at ht
    by_cases hji : j < i2
    · rw [List.append_assoc, List.getElem?_append_left (by rw [List.length_take]; omega), List.getElem?_take, if_pos hji] at ht
      exact HOTH.out j t (by omega) (by omega) ht
    · rw [List.getElem?_append_right (by simp; omega), List.getElem?_drop] at ht
      exact HOTH.out _ t (by simp; omega) (by simp; omega) ht)
  have hov := HOK12.out.2.2
  have hfv := HV.out.2.1
  have HOTb := Lib.hid (HV.out.2.2.1 1 3 (by omega) (by omega))
  have OTb := HOTb
  obtain ⟨adk2, hnk2, _, _⟩ := IsN.node hiv HOTb.out
  obtain ⟨B1b, d1b, hB0b, _, _, _⟩ := hnk2.file
  obtain ⟨mb, emb⟩ : ∃ p, p = (NT.files h V).length := ⟨_, rfl⟩
  rw [← emb] at hB0b
  have z0b := hB0b wc (Below.refl _ _)
  have HMb := Lib.hid emb
  have hl8 : ADb.length = KSb.length := hkb0.1
  have hn7 := HSM0.out
  have hn7f := HF7W.out.2.1
  have hi34 := HI3.out
  have hi44 := HI4.out
  have hi2n := HI2.out
  have en7b := EN7b.out
  have en8b := EN8b.out
  have hn8k := HN8.out
  have hkw1 := HKW.out.1
  have hlenk := HLENK.out
  have hn8b : n8b = ADb.length := by rw [hl8, hlb, en8b]; omega
  have HF7b := Lib.hid (show n7b ≤ c7b ∧ n7b = FSb.length ∧ RawAt wc A7b (xsV FSb) from ⟨HA7b.out.1, by omega, hA7'.below h3c⟩)
  have HK8b := Lib.hid (show n8b ≤ c8b ∧ n8b = ADb.length ∧ RawAt wc A8b (ksV ADb) from ⟨hc8b, hn8b, hA8b⟩)
  have HINb := Lib.hid (show i2 ≤ n7b ∧ i2 < n8b from ⟨by omega, by omega⟩)
  have HSMb := Lib.hid (show n7b ≤ 4096 ∧ n8b ≤ 4096 from ⟨by omega, by omega⟩)
  have HBC := Lib.hid hbc
  clear hc8b hA8b hb4 h3c h2c h1c hbc hlt1 hlt2 hfl eKSb eADb eFSb hA7' hfb hiv hkb0 hlb hov hfv hnk2 hB0b emb hl8 hn7 hn7f hi34 hi44 hi2n hn8b en7b en8b hn8k hkw1 hlenk kc8a kc8b x0c x1c x2c z0 g1 g1n q1 q2 q2m
  by_cases hm2 : mb ≤ 2
  · have g2 : decide (2 < (mb : Int)) = false := by simp; omega
    have g2n : decide (2 < mb) = false := by simp; omega
    have HOK := Lib.hid (show ∀ (j : Nat) (t : NT h), KSb[j]? = some t → NT.ok 1 2 h t from fun j t hj => by
      by_cases hji : j = i2
      · rw [hji, HTb.out] at hj
        cases hj
        exact OTb.out.to OTb.out.len.1 (by rw [← HMb.out]; exact hm2)
      · exact HOKSb.out j t hji hj)
    clear hm2
    go_wp2_with fail
    go_ret
    have hbz := HBC.out.alloc HBC.out.size (.cells #[.slice A7b n7b c7b, .slice A8b n8b c8b] 77)
    have hbw := bl1 wc (.cells #[.slice A7b n7b c7b, .slice A8b n8b c8b] 77)
    have hnew := heap_alloc_new wc (.cells #[.slice A7b n7b c7b, .slice A8b n8b c8b] 77)
    have hat : NodeAt (wc.alloc (.cells #[.slice A7b n7b c7b, .slice A8b n8b c8b] 77)) wc.heap.size FSb ADb := ⟨A7b, c7b, A8b, c8b, by rw [← HF7b.out.2.1, ← HK8b.out.2.1]; exact hnew, by rw [← HF7b.out.2.1]; exact HF7b.out.1, by rw [← HK8b.out.2.1]; exact HK8b.out.1, HF7b.out.2.2.below hbw, HK8b.out.2.2.below hbw⟩
    obtain ⟨r, hr1, hr2, hr3, hr4⟩ := IsN.keep (HKIDSb.out.below hbw) HLENb.out hat HOK.out
    refine ⟨r, _, rfl, hr1, ?_, ?_, ?_, ?_, ?_, hr4, hbz⟩
    · rw [hr2]
      exact HWV.out
    · rw [hr3]
      have := HFB.out
      omega
    · rw [hr3]
      have := HFB.out
      omega
    · intro h1
      have := HOT.out.len.2
      omega
    · intro _
      rw [hr3]
      have := HFB.out
      omega
  · have g2 : decide (2 < (mb : Int)) = true := by simp; omega
    have g2n : decide (2 < mb) = true := by simp; omega
    have hm3 : mb = 3 := by have := OTb.out.len.2; have := HMb.out; omega
    obtain ⟨x0, x1, x2, ad2, hn3, hk3, ta, tb, hfl, ota, otb, hmk⟩ := NT.halves HKIDb.out (OTb.out.to (by rw [← HMb.out]; omega) (by rw [← HMb.out]; omega))
    have HH := Lib.hid (halves_are hn3 hk3)
    have HMK := Lib.hid hmk
    have HFL := Lib.hid (And.intro hfl (And.intro ota otb))
    have HSF := Lib.hid fun (W : World) (g : Nat) (hW : Below wc.heap.size wc W) (hg : W.heap[g]? = some (.cells #[.string x1.f.path, .int .i64 x1.f.ver, .pointer x1.q] 68)) => splF (W := W) (A := A7b) (B := some ⟨g, 0, none⟩) (c := c7b) (m := 1) (d := 1) (xs := FSb) (ys := [x1]) i2 i2 (Nat.le_refl _) HINb.out.1 HF7b.out.1 HF7b.out.2.1 rfl HSMb.out.1 (by omega) (HF7b.out.2.2.below hW) (raw_one hg)
    have HSK2 := Lib.hid fun (W : World) (g a b2 : Nat) (hW : Below wc.heap.size wc W) (hg : W.heap[g]? = some (.cells #[.pointer (some ⟨a, 0, none⟩), .pointer (some ⟨b2, 0, none⟩)] 71)) => splK (W := W) (A := A8b) (B := some ⟨g, 0, none⟩) (c := c8b) (m := 2) (d := 2) (xs := ADb) (ys := [a, b2]) i2 i3 (by have := HI3.out; omega) (by have := HI3.out; have := HINb.out.2; omega) HK8b.out.1 HK8b.out.2.1 rfl HSMb.out.2 (by omega) (HK8b.out.2.2.below hW) (raw_ks2 hg)
    clear hn3 hk3 hfl ota otb hmk hm2 hm3
    go_wp2_with fail
    go_at_call 30
    (with_reducible refine HH.out.mono ?_)
    rintro e w3 ⟨a, b2, rfl, ha, hb2, hb3⟩
    have HAB := Lib.hid (And.intro ha hb2)
    have HB3 := Lib.hid hb3
    clear ha hb2 hb3
    go_wp2_with fail
    go_at_call 41
    (with_reducible refine (HSF.out _ _ (HB3.out.trans ((bl2 _ _ _).mono HB3.out.size)) (hn2_1 _ _ _)).mono ?_)
    rintro e w4 ⟨F7, e7, rfl, he7, hF7, hb4⟩
    have h34 := (bl2 w3 _ _).trans (hb4.mono (bl2 w3 _ _).size)
    have HAB4 := Lib.hid (And.intro (HAB.out.1.below h34) (HAB.out.2.below h34))
    have HB4 := Lib.hid (HB3.out.trans (h34.mono HB3.out.size))
    have HF := Lib.hid (And.intro he7 hF7)
    clear he7 hF7 hb4 h34
    go_wp2_with fail
    go_at_call 58
    (with_reducible refine (HSK2.out _ _ _ _ (Below.alloc HB4.out HB4.out.size _) (heap_alloc_new _ _)).mono ?_)
    rintro e w5 ⟨G8, e8, rfl, he8, hG8, hb5⟩
    have h45 := (bl1 w4 _).trans (hb5.mono (bl1 w4 _).size)
    have HAB5 := Lib.hid (And.intro (HAB4.out.1.below h45) (HAB4.out.2.below h45))
    have HB5 := Lib.hid (HB4.out.trans (h45.mono HB4.out.size))
    have HFG := Lib.hid (And.intro (HF.out.2.below h45) (And.intro he8 hG8))
    clear he8 hG8 hb5 h45
    go_wp2_with fail
    go_ret
    have hb6 := bl1 w5 (.cells #[.slice F7 (i2 + 1 + (n7b - i2)) e7, .slice G8 (i2 + 2 + (n8b - i3)) e8] 77)
    have hnew := heap_alloc_new w5 (.cells #[.slice F7 (i2 + 1 + (n7b - i2)) e7, .slice G8 (i2 + 2 + (n8b - i3)) e8] 77)
    have hbc6 := HB5.out.trans (hb6.mono HB5.out.size)
    have hbz := HBC.out.trans (hbc6.mono HBC.out.size)
    have hl1 : (FSb.take i2 ++ [x1] ++ FSb.drop i2).length = i2 + 1 + (n7b - i2) := len_ins1 HF7b.out.2.1 HINb.out.1
    have hl2 : (ADb.take i2 ++ [a, b2] ++ ADb.drop i3).length = i2 + 2 + (n8b - i3) := len_ins2 HK8b.out.2.1 HINb.out.2
    have hat : NodeAt (w5.alloc (.cells #[.slice F7 (i2 + 1 + (n7b - i2)) e7, .slice G8 (i2 + 2 + (n8b - i3)) e8] 77)) w5.heap.size (FSb.take i2 ++ [x1] ++ FSb.drop i2) (ADb.take i2 ++ [a, b2] ++ ADb.drop i3) :=
      ⟨F7, e7, G8, e8, by rw [hl1, hl2]; exact hnew, by rw [hl1]; exact HF.out.1, by rw [hl2]; exact HFG.out.2.1, HFG.out.1.below hb6, HFG.out.2.2.below hb6⟩
    rw [show ADb.drop i3 = ADb.drop (i2 + 1) by rw [HI3.out]] at hat
    obtain ⟨k1, k2⟩ := HMK.out _ _ _ hbc6 (HAB5.out.1.below hb6) (HAB5.out.2.below hb6)
    obtain ⟨r, hr1, hr2, hr3, hr4⟩ := IsN.ins (HKIDSb.out.below hbc6) HLENb.out (by rw [← HF7b.out.2.1]; exact HINb.out.1) HTb.out HFL.out.1 k1 k2 hat HFL.out.2.1 HFL.out.2.2 HOKSb.out
    refine ⟨r, _, rfl, hr1, ?_, ?_, ?_, ?_, ?_, hr4, hbz⟩
    · rw [hr2]
      exact HWV.out
    · rw [hr3]
      have := HFB.out
      omega
    · rw [hr3]
      have := HFB.out
      omega
    · intro h1
      have := HOT.out.len.2
      omega
    · intro _
      rw [hr3]
      have := HFB.out
      omega
end Go.Proofs.Ytcjbhjbjkfgphaa

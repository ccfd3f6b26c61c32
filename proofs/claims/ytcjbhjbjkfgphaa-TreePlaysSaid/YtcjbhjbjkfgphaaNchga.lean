/-
  What changed makes of a node whose kid has files. Condition: the node is as the trees' nodes are.
-/
import Derived.Test.YtcjbhjbjkfgphaaNweave
namespace Go.Proofs.Ytcjbhjbjkfgphaa
open Go.RowKit Go.Deep

set_option maxRecDepth 100000 in
set_option maxHeartbeats 4000000 in
theorem changed_a {w : World} {h : Nat} {fs : List FX} {ks : List (NT h)} {b i k : Nat} {T : NT h} (hn : IsN w (h + 1) (fs, ks) b) (ho : NT.ok 1 2 (h + 1) (fs, ks)) (hi : i < ks.length) (hT : IsN w h T k) (oT : NT.ok 1 3 h T) :
    Calls Try.prog 42 #[.pointer (some ⟨b, 0, none⟩), .int .i64 (i : Int), .pointer (some ⟨k, 0, none⟩)] w (ChangedIs h fs (ks.take i ++ [T] ++ ks.drop (i + 1)) T w) := by
  obtain ⟨ad, hnode, hkl, hkids⟩ := hn
  obtain ⟨o1, o2, o3, o4⟩ := ho
  have hbl := hnode.lt
  have hfs := hnode
  obtain ⟨A7, c7, A2, c2, hb, hc7, hc2, r1, r2⟩ := hnode
  obtain ⟨n7, en7⟩ : ∃ p, p = fs.length := ⟨_, rfl⟩
  obtain ⟨n, en⟩ : ∃ p, p = ad.length := ⟨_, rfl⟩
  have hin : i < n := by rw [en, hkl]; exact hi
  have hn3 : n ≤ 3 := by rw [en, hkl]; omega
  rw [← en7, ← en] at hb
  obtain ⟨i1, ei1⟩ : ∃ p, p = i + 1 := ⟨_, rfl⟩
  have q1 : IntKind.i64.wrap ((i : Int) + 1) = (i1 : Int) := by rw [show (i : Int) + 1 = (i1 : Int) by omega]; exact IntWalk.i64_in _ (by omega)
  have hkall : KidsAre w h (ks.take i ++ [T] ++ ks.drop (i + 1)) (ad.take i ++ [k] ++ ad.drop (i + 1)) := ((KidsAre.take ⟨hkl, hkids⟩ i).append (KidsAre.one hT)).append (KidsAre.drop ⟨hkl, hkids⟩ (i + 1))
  have hklen : (ks.take i ++ [T] ++ ks.drop (i + 1)).length = fs.length + 1 := by simp; omega
  have hkt : (ks.take i ++ [T] ++ ks.drop (i + 1))[i]? = some T := by
    rw [List.append_assoc, List.getElem?_append_right (by rw [List.length_take]; omega), List.length_take, show i - min i ks.length = 0 by omega]
    rfl
  have hko : ∀ (j : Nat) (t : NT h), j ≠ i → (ks.take i ++ [T] ++ ks.drop (i + 1))[j]? = some t → NT.ok 1 2 h t := fun j t hj ht => by
    refine o4 t ?_
    by_cases hji : j < i
    · rw [List.append_assoc, List.getElem?_append_left (by rw [List.length_take]; omega), List.getElem?_take, if_pos hji] at ht
      exact List.mem_of_getElem? ht
    · rw [List.getElem?_append_right (by simp; omega), List.getElem?_drop] at ht
      exact List.mem_of_getElem? ht
  obtain ⟨KS, eKS⟩ : ∃ l, l = ks.take i ++ [T] ++ ks.drop (i + 1) := ⟨_, rfl⟩
  obtain ⟨AD, eAD⟩ : ∃ l, l = ad.take i ++ [k] ++ ad.drop (i + 1) := ⟨_, rfl⟩
  obtain ⟨WB, eWB⟩ : ∃ W, W = (w.alloc (.cells #[.pointer (some ⟨k, 0, none⟩)] 71)).drew := ⟨_, rfl⟩
  have hwb : Below w.heap.size w WB := by rw [eWB]; exact dl1 _ _
  have hgk : WB.heap[w.heap.size]? = some (.cells #[.pointer (some ⟨k, 0, none⟩)] 71) := by rw [eWB]; exact heap_alloc_new w _
  have hsk := splK (W := WB) (A := A2) (B := some ⟨w.heap.size, 0, none⟩) (c := c2) (m := 1) (d := 1) (xs := ad) (ys := [k]) i i1 (by omega) (by omega) (by rw [en]; exact hc2) en rfl (by omega) (by omega) (r2.below hwb) (raw_ks1 hgk)
  obtain ⟨n8, en8⟩ : ∃ p, p = i + 1 + (n - i1) := ⟨_, rfl⟩
  rw [← en8, ei1, ← eAD] at hsk
  rw [← ei1] at hsk
  have hn8 : n8 = AD.length := by rw [eAD, en8]; simp; omega
  rw [← eKS, ← eAD] at hkall
  rw [← eKS] at hklen hkt hko ⊢
  obtain ⟨adk, hnk, _, _⟩ := IsN.node hT oT
  obtain ⟨B1, d1, hB0, _, _, _⟩ := hnk.file
  obtain ⟨m, em⟩ : ∃ p, p = (NT.files h T).length := ⟨_, rfl⟩
  rw [← em] at hB0
  have HC := Lib.hid fun (W : World) (hW : Below w.heap.size w W) => show W.cell? ⟨b, 0, none⟩ = some (.slice A7 n7 c7) ∧ W.cell? ⟨b, 1, none⟩ = some (.slice A2 n c2) from
    ⟨(hW.cell (p := ⟨b, 0, none⟩) hbl).trans (obj_cell hb 0), (hW.cell (p := ⟨b, 1, none⟩) hbl).trans (obj_cell hb 1)⟩
  obtain ⟨f0, f1⟩ := HC.out w (Below.refl _ _)
  have HSK := Lib.hid hsk
  rw [eWB] at HSK
  have HWB := Lib.hid hwb
  rw [eWB] at HWB
  have HZ := Lib.hid hB0
  have hm1 : 1 ≤ m := by rw [em]; exact oT.len.1
  have g1 : decide ((m : Int) < 1) = false := by simp; omega
  have g1n : decide (m < 1) = false := by simp; omega
  have HM := Lib.hid em
  have HT := Lib.hid hkt
  have OT := Lib.hid oT
  have HOKS := Lib.hid hko
  have HLEN := Lib.hid hklen
  have HKW := Lib.hid hkall
  have HTW := Lib.hid hT
  have HI1 := Lib.hid ei1
  have HIN := Lib.hid (show i ≤ n7 ∧ i < n8 from ⟨by rw [en7]; omega, by omega⟩)
  have HSM := Lib.hid (show n7 ≤ 4096 ∧ n8 ≤ 4096 from ⟨by rw [en7]; omega, by omega⟩)
  have HF7W := Lib.hid (show n7 ≤ c7 ∧ n7 = fs.length ∧ RawAt w A7 (xsV fs) from ⟨by rw [en7]; exact hc7, en7, r1⟩)
  have HN8 := Lib.hid hn8
  obtain ⟨FS, eFS⟩ : ∃ FS, FS = fs := ⟨_, rfl⟩
  rw [← eFS] at HLEN HF7W ⊢
  clear hn3 hin hi hkl hkids o1 o2 o3 o4 hbl hfs hb hc7 hc2 r1 r2 en7 en ei1 hkall hklen hkt hko eKS eAD eWB hwb hgk hsk en8 hn8 hnk hB0 em hT oT hm1 eFS
  go_enter Try.func42, Try.ntmps42
  go_wp2_with fail
  go_region_held3 (fun wx => wx.cell? ⟨b, 0, none⟩ = some (.slice A7 n7 c7) ∧ wx.cell? ⟨b, 1, none⟩ = some (.slice A2 n c2))
    (first | assumption | exact ⟨f0, f1⟩ | exact HC.out _ HWB.out | exact HC.out _ HB1.out | (refine HC.out _ ?_; (first | with_reducible exact dl0 _ | with_reducible exact dl1 _ _ | with_reducible exact bl1 _ _)))
    ((go_at_call 58; (with_reducible refine HSK.out.mono ?_); rintro e w1 ⟨A8, c8, rfl, hc8, hA8, hb1⟩; have HB1 := Lib.hid (HWB.out.trans (hb1.mono HWB.out.size)); have HA8 := Lib.hid (And.intro hc8 hA8); clear hc8 hA8 hb1))
  obtain ⟨wc, ewc⟩ : ∃ W, W = w1 := ⟨_, rfl⟩
  rw [← ewc] at HB1 HA8 ⊢
  have HBC := Lib.hid HB1.out
  have hbc := HBC.out
  have HF7 := Lib.hid (show n7 ≤ c7 ∧ n7 = FS.length ∧ RawAt wc A7 (xsV FS) from ⟨HF7W.out.1, HF7W.out.2.1, HF7W.out.2.2.below hbc⟩)
  have HK8 := Lib.hid (show n8 ≤ c8 ∧ n8 = AD.length ∧ RawAt wc A8 (ksV AD) from ⟨HA8.out.1, HN8.out, HA8.out.2⟩)
  have HKIDS := Lib.hid (HKW.out.below hbc)
  have HKID := Lib.hid (HTW.out.below hbc)
  have z0 := HZ.out wc hbc
  clear f0 f1 ewc hbc
  by_cases hm2 : m ≤ 2
  · have g2 : decide (2 < (m : Int)) = false := by simp; omega
    have g2n : decide (2 < m) = false := by simp; omega
    have HOK := Lib.hid (show ∀ (j : Nat) (t : NT h), KS[j]? = some t → NT.ok 1 2 h t from fun j t hj => by
      by_cases hji : j = i
      · rw [hji, HT.out] at hj
        cases hj
        exact OT.out.to OT.out.len.1 (by rw [← HM.out]; exact hm2)
      · exact HOKS.out j t hji hj)
    clear hm2
    go_wp2_with fail
    go_ret
    have hbz := HBC.out.alloc HBC.out.size (.cells #[.slice A7 n7 c7, .slice A8 n8 c8] 77)
    have hbw := bl1 wc (.cells #[.slice A7 n7 c7, .slice A8 n8 c8] 77)
    have hnew := heap_alloc_new wc (.cells #[.slice A7 n7 c7, .slice A8 n8 c8] 77)
    have hat : NodeAt (wc.alloc (.cells #[.slice A7 n7 c7, .slice A8 n8 c8] 77)) wc.heap.size FS AD := ⟨A7, c7, A8, c8, by rw [← HF7.out.2.1, ← HK8.out.2.1]; exact hnew, by rw [← HF7.out.2.1]; exact HF7.out.1, by rw [← HK8.out.2.1]; exact HK8.out.1, HF7.out.2.2.below hbw, HK8.out.2.2.below hbw⟩
    obtain ⟨r, hr1, hr2, hr3, hr4⟩ := IsN.keep (HKIDS.out.below hbw) HLEN.out hat HOK.out
    refine ⟨r, _, rfl, hr1, ?_, ?_, ?_, ?_, ?_, hr4, hbz⟩
    · exact hr2
    · rw [hr3]; omega
    · rw [hr3]; omega
    · intro _
      rw [hr3]
      first | exact Nat.le_refl _ | exact Nat.le_succ _
    · intro h2
      first
        | (rw [hr3]; exact Nat.le_refl _)
        | (exact absurd (of_decide_eq_true g2n) (by have := HM.out; omega))
  · have g2 : decide (2 < (m : Int)) = true := by simp; omega
    have g2n : decide (2 < m) = true := by simp; omega
    have hm3 : m = 3 := by have := OT.out.len.2; have := HM.out; omega
    obtain ⟨x0, x1, x2, ad2, hn3, hk3, ta, tb, hfl, ota, otb, hmk⟩ := NT.halves HKID.out (OT.out.to (by rw [← HM.out]; omega) (by rw [← HM.out]; omega))
    have HH := Lib.hid (halves_are hn3 hk3)
    have HMK := Lib.hid hmk
    have HFL := Lib.hid (And.intro hfl (And.intro ota otb))
    have HSF := Lib.hid fun (W : World) (g : Nat) (hW : Below wc.heap.size wc W) (hg : W.heap[g]? = some (.cells #[.string x1.f.path, .int .i64 x1.f.ver, .pointer x1.q] 68)) => splF (W := W) (A := A7) (B := some ⟨g, 0, none⟩) (c := c7) (m := 1) (d := 1) (xs := FS) (ys := [x1]) i i (Nat.le_refl _) HIN.out.1 HF7.out.1 HF7.out.2.1 rfl HSM.out.1 (by omega) (HF7.out.2.2.below hW) (raw_one hg)
    have HSK2 := Lib.hid fun (W : World) (g a b2 : Nat) (hW : Below wc.heap.size wc W) (hg : W.heap[g]? = some (.cells #[.pointer (some ⟨a, 0, none⟩), .pointer (some ⟨b2, 0, none⟩)] 71)) => splK (W := W) (A := A8) (B := some ⟨g, 0, none⟩) (c := c8) (m := 2) (d := 2) (xs := AD) (ys := [a, b2]) i i1 (by have := HI1.out; omega) (by have := HI1.out; have := HIN.out.2; omega) HK8.out.1 HK8.out.2.1 rfl HSM.out.2 (by omega) (HK8.out.2.2.below hW) (raw_ks2 hg)
    clear hn3 hk3 hfl ota otb hmk hm2 hm3
    go_wp2_with fail
    go_at_call 30
    (with_reducible refine HH.out.mono ?_)
    rintro e w3 ⟨a, b2, rfl, ha, hb2, hb3⟩
    have HAB := Lib.hid (And.intro ha hb2)
    have HB3 := Lib.hid hb3
    clear ha hb2 hb3
    go_wp2_with fail
    go_at_call 41
    (with_reducible refine (HSF.out _ _ (HB3.out.trans ((bl2 _ _ _).mono HB3.out.size)) (hn2_1 _ _ _)).mono ?_)
    rintro e w4 ⟨F7, e7, rfl, he7, hF7, hb4⟩
    have h34 := (bl2 w3 _ _).trans (hb4.mono (bl2 w3 _ _).size)
    have HAB4 := Lib.hid (And.intro (HAB.out.1.below h34) (HAB.out.2.below h34))
    have HB4 := Lib.hid (HB3.out.trans (h34.mono HB3.out.size))
    have HF := Lib.hid (And.intro he7 hF7)
    clear he7 hF7 hb4 h34
    go_wp2_with fail
    go_at_call 58
    (with_reducible refine (HSK2.out _ _ _ _ (Below.alloc HB4.out HB4.out.size _) (heap_alloc_new _ _)).mono ?_)
    rintro e w5 ⟨G8, e8, rfl, he8, hG8, hb5⟩
    have h45 := (bl1 w4 _).trans (hb5.mono (bl1 w4 _).size)
    have HAB5 := Lib.hid (And.intro (HAB4.out.1.below h45) (HAB4.out.2.below h45))
    have HB5 := Lib.hid (HB4.out.trans (h45.mono HB4.out.size))
    have HFG := Lib.hid (And.intro (HF.out.2.below h45) (And.intro he8 hG8))
    clear he8 hG8 hb5 h45
    go_wp2_with fail
    go_ret
    have hb6 := bl1 w5 (.cells #[.slice F7 (i + 1 + (n7 - i)) e7, .slice G8 (i + 2 + (n8 - i1)) e8] 77)
    have hnew := heap_alloc_new w5 (.cells #[.slice F7 (i + 1 + (n7 - i)) e7, .slice G8 (i + 2 + (n8 - i1)) e8] 77)
    have hbc6 := HB5.out.trans (hb6.mono HB5.out.size)
    have hbz := HBC.out.trans (hbc6.mono HBC.out.size)
    have hl1 : (FS.take i ++ [x1] ++ FS.drop i).length = i + 1 + (n7 - i) := len_ins1 HF7.out.2.1 HIN.out.1
    have hl2 : (AD.take i ++ [a, b2] ++ AD.drop i1).length = i + 2 + (n8 - i1) := len_ins2 HK8.out.2.1 HIN.out.2
    have hat : NodeAt (w5.alloc (.cells #[.slice F7 (i + 1 + (n7 - i)) e7, .slice G8 (i + 2 + (n8 - i1)) e8] 77)) w5.heap.size (FS.take i ++ [x1] ++ FS.drop i) (AD.take i ++ [a, b2] ++ AD.drop i1) :=
      ⟨F7, e7, G8, e8, by rw [hl1, hl2]; exact hnew, by rw [hl1]; exact HF.out.1, by rw [hl2]; exact HFG.out.2.1, HFG.out.1.below hb6, HFG.out.2.2.below hb6⟩
    rw [show AD.drop i1 = AD.drop (i + 1) by rw [HI1.out]] at hat
    obtain ⟨k1, k2⟩ := HMK.out _ _ _ hbc6 (HAB5.out.1.below hb6) (HAB5.out.2.below hb6)
    obtain ⟨r, hr1, hr2, hr3, hr4⟩ := IsN.ins (HKIDS.out.below hbc6) HLEN.out (by rw [← HF7.out.2.1]; exact HIN.out.1) HT.out HFL.out.1 k1 k2 hat HFL.out.2.1 HFL.out.2.2 HOKS.out
    refine ⟨r, _, rfl, hr1, ?_, ?_, ?_, ?_, ?_, hr4, hbz⟩
    · exact hr2
    · rw [hr3]; omega
    · rw [hr3]; omega
    · intro _
      rw [hr3]
      first | exact Nat.le_refl _ | exact Nat.le_succ _
    · intro h2
      first
        | (rw [hr3]; exact Nat.le_refl _)
        | (exact absurd (of_decide_eq_true g2n) (by have := HM.out; omega))
end Go.Proofs.Ytcjbhjbjkfgphaa

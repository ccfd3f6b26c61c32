/-
  A node's last file; how high a node in memory stands. Condition: the node is as the trees' nodes are.
-/
import Derived.Test.YtmcohbppeabmgaaNputs
import Derived.Test.YtmcohbppeabmgaaNhalf
namespace Go.Proofs.Ytmcohbppeabmgaa
open Go.RowKit Go.Deep

theorem node_same {w : World} {b : Nat} {f1 f2 : List FX} {ad bd : List Nat} (ha : NodeAt w b f1 ad) (hb : NodeAt w b f2 bd) : ad = bd := by
  obtain ⟨A1, c1, A2, c2, h1, _, _, _, h2⟩ := ha
  obtain ⟨B1, d1, B2, d2, k1, _, _, _, k2⟩ := hb
  rw [h1] at k1
  simp at k1
  obtain ⟨_, ⟨e2, e3, _⟩⟩ := k1
  subst e2
  refine List.ext_getElem? fun i => ?_
  by_cases hi : i < ad.length
  · have x1 := List.getElem?_eq_getElem hi
    have x2 := List.getElem?_eq_getElem (show i < bd.length by omega)
    obtain ⟨g, o, e, c⟩ := h2.cell (i := i) (v := ptrV ad[i]) (by rw [ksV, List.getElem?_map, x1]; rfl)
    obtain ⟨g', o', e', c'⟩ := k2.cell (i := i) (v := ptrV bd[i]) (by rw [ksV, List.getElem?_map, x2]; rfl)
    subst e
    cases e'
    rw [c] at c'
    simp [ptrV] at c'
    rw [x1, x2, c']
  · rw [List.getElem?_eq_none (by omega), List.getElem?_eq_none (by omega)]
theorem IsN.uniq {w : World} : ∀ {h h' : Nat} {t : NT h} {t' : NT h'} {b : Nat}, IsN w h t b → NT.ok 1 2 h t → IsN w h' t' b → NT.ok 1 2 h' t' → h = h'
  | 0, 0, _, _, _, _, _, _, _ => rfl
  | 0, h' + 1, _, (_, ks'), _, h1, _, ⟨ad', k1, k2, _⟩, ⟨_, _, o3, _⟩ => by
    have := node_same h1 k1
    rw [← this] at k2
    simp at k2
    omega
  | h + 1, 0, (_, ks), _, _, ⟨ad, k1, k2, _⟩, ⟨_, _, o3, _⟩, h1, _ => by
    have := node_same h1 k1
    rw [← this] at k2
    simp at k2
    omega
  | h + 1, h' + 1, (_, ks), (_, ks'), _, ⟨ad, k1, k2, k3⟩, ⟨_, _, o3, o4⟩, ⟨ad', l1, l2, l3⟩, ⟨_, _, p3, p4⟩ => by
    have e := node_same k1 l1
    subst e
    match ks, ks', ad, o3, p3, k2, l2 with
    | k :: _, k' :: _, a :: _, _, _, _, _ =>
      have := IsN.uniq (k3 0 k a rfl rfl) (o4 k List.mem_cons_self) (l3 0 k' a rfl rfl) (p4 k' List.mem_cons_self)
      rw [this]
theorem hgt_ex : ∃ μ : World → Nat → Nat, ∀ w b n, (∃ t : NT n, IsN w n t b ∧ NT.ok 1 2 n t) → μ w b = n := by
  classical
  refine ⟨fun w b => if h : ∃ n, ∃ t : NT n, IsN w n t b ∧ NT.ok 1 2 n t then h.choose else 0, fun w b n hn => ?_⟩
  have he : ∃ n, ∃ t : NT n, IsN w n t b ∧ NT.ok 1 2 n t := ⟨n, hn⟩
  simp only [dif_pos he]
  obtain ⟨t, h1, h2⟩ := he.choose_spec
  obtain ⟨t', k1, k2⟩ := hn
  exact IsN.uniq h1 h2 k1 k2
theorem flat_last {h : Nat} {fs : List FX} {ks : List (NT h)} {k : NT h} (hl : ks.length = fs.length + 1) (hk : ks[ks.length - 1]? = some k) : ∃ pre, NT.flat (h + 1) (fs, ks) = pre ++ NT.flat h k := by
  have hn : ks ≠ [] := fun e => by rw [e] at hl; simp at hl
  obtain ⟨ks', k', rfl⟩ : ∃ a b, ks = a ++ [b] := by
    rcases List.eq_nil_or_concat ks with e | ⟨a, b, e⟩
    · exact absurd e hn
    · exact ⟨a, b, by rw [e, List.concat_eq_append]⟩
  have hk' : k' = k := by simpa using hk
  subst hk'
  have hl' : fs.length = (ks'.map (NT.flat h)).length := by simp at hl; simp; omega
  have := weave_mid (fs1 := fs) (fs2 := []) (ks1 := ks'.map (NT.flat h)) (ks2 := []) (k := NT.flat h k') hl'
  rw [List.append_nil] at this
  refine ⟨headF fs (ks'.map (NT.flat h)), ?_⟩
  show weave fs ((ks' ++ [k']).map (NT.flat h)) = _
  rw [List.map_append, List.map_cons, List.map_nil, this]
  simp [tailF]
theorem below_drewN2 (w : World) (n : Nat) : Below w.heap.size w (w.drewN n) := ⟨rfl, rfl, rfl, Nat.le_refl _, fun _ _ => rfl⟩
theorem last_split {fs : List FX} {n1 : Nat} {x : FX} (hx : fs[n1]? = some x) (hn : n1 + 1 = fs.length) : fs = fs.take n1 ++ [x] := by
  have h := split_at hx
  rw [hn, List.drop_length] at h
  exact h
def LastIs (xs : List FX) (w : World) (e : Ending) (w' : World) : Prop := ∃ c x, xs = c ++ [x] ∧ e = .returned (.agg #[.string x.f.path, .int .i64 x.f.ver, .pointer x.q]) ∧ Below w.heap.size w w'
def LastRel (w : World) (h0 : Nat) (t0 : NT h0) (nv : Value) (wr : World) : Prop := ∃ (h : Nat) (t : NT h) (b : Nat) (pre : List FX), nv = .pointer (some ⟨b, 0, none⟩) ∧ IsN w h t b ∧ NT.ok 1 2 h t ∧ NT.flat h0 t0 = pre ++ NT.flat h t ∧ Below (w.alloc (.cells #[.string ⟨#[]⟩, .int .i64 0, .pointer none] 70)).heap.size (w.alloc (.cells #[.string ⟨#[]⟩, .int .i64 0, .pointer none] 70)) wr

set_option maxRecDepth 100000 in
set_option maxHeartbeats 4000000 in
theorem last_is {w : World} {h0 : Nat} {t0 : NT h0} {b0 : Nat} (hn : IsN w h0 t0 b0) (ho : NT.ok 1 2 h0 t0) : Calls Try.prog 46 #[.pointer (some ⟨b0, 0, none⟩)] w (LastIs (NT.flat h0 t0) w) := by
  obtain ⟨μ, hμ⟩ := hgt_ex
  have HMU := Lib.hid hμ
  have HN := Lib.hid hn
  have HO := Lib.hid ho
  clear hn ho hμ
  go_enter Try.func46, Try.ntmps46
  go_wp2_with fail
  go_loopw [0] (fun nv wr => LastRel w h0 t0 nv wr) (fun nv _ => match nv with | .pointer (some a) => μ w a.block | _ => 0)
  case atStart => exact ⟨h0, t0, b0, [], rfl, HN.out, HO.out, rfl, Below.refl _ _⟩
  case round =>
    obtain ⟨h, t, b, pre, rfl, ht, hok, hfl, hb⟩ := hrel
    have hwb := bl1 w (.cells #[.string ⟨#[]⟩, .int .i64 0, .pointer none] 70)
    have HB := Lib.hid hb
    have HWR := Lib.hid (hwb.trans (hb.mono hwb.size))
    have HFL := Lib.hid hfl
    have HM := Lib.hid (HMU.out w b h ⟨t, ht, hok⟩)
    cases h with
    | zero =>
      have hnode : NodeAt w b t [] := ht
      have hlo := hok.1
      have hlo2 := hok.2
      obtain ⟨A1, c1, hB0, _, _, hfile⟩ := hnode.file
      obtain ⟨A1', c1', A2, c2, hbk, _, _, _, _⟩ := hnode
      obtain ⟨n, en⟩ : ∃ n, n = List.length t := ⟨_, rfl⟩
      obtain ⟨n1, en1⟩ : ∃ p, p = n - 1 := ⟨_, rfl⟩
      rw [← en] at hbk hB0 hlo hlo2
      obtain ⟨x, hx⟩ : ∃ x, (show List FX from t)[n1]? = some x := ⟨(show List FX from t)[n1]'(by show n1 < List.length t; omega), List.getElem?_eq_getElem _⟩
      obtain ⟨g, o, eA, hxc⟩ := hfile n1 x hx
      subst eA
      have hwr := HWR.out
      have HS := Lib.hid fun (W : World) (hW : Below wr.heap.size wr W) => (⟨hB0 W (hwr.trans (hW.mono hwr.size)), hxc W (hwr.trans (hW.mono hwr.size))⟩ : W.cell? ⟨b, 0, none⟩ = some (.slice (some ⟨g, o, none⟩) n c1) ∧ W.cell? ⟨g, o + n1 * 3, none⟩ = some (.string x.f.path) ∧ W.cell? ⟨g, o + n1 * 3 + 1, none⟩ = some (.int .i64 x.f.ver) ∧ W.cell? ⟨g, o + n1 * 3 + 2, none⟩ = some (.pointer x.q))
      have HS2 := Lib.hid fun (W : World) (hW : Below w.heap.size w W) => (⟨hB0 W hW, hxc W hW⟩ : W.cell? ⟨b, 0, none⟩ = some (.slice (some ⟨g, o, none⟩) n c1) ∧ W.cell? ⟨g, o + n1 * 3, none⟩ = some (.string x.f.path) ∧ W.cell? ⟨g, o + n1 * 3 + 1, none⟩ = some (.int .i64 x.f.ver) ∧ W.cell? ⟨g, o + n1 * 3 + 2, none⟩ = some (.pointer x.q))
      obtain ⟨y0, y1, y2, y3⟩ := HS.out wr (Below.refl _ _)
      have yk : wr.cell? ⟨b, 1, none⟩ = some (.slice A2 0 c2) := (hwr.cell (p := ⟨b, 1, none⟩) (Array.getElem?_eq_some_iff.1 hbk).1).trans (obj_cell hbk 1)
      have hob : wr.heap[w.heap.size]? = some (.cells #[.string ⟨#[]⟩, .int .i64 0, .pointer none] 70) := (hb.block w.heap.size (by simp)).trans (heap_alloc_new w _)
      have z0 := obj_cell hob 0
      have z1 := obj_cell hob 1
      have z2 := obj_cell hob 2
      have v0 := frozen_of_row wr w.heap.size 0 _ _ hob
      have v1 := frozen_of_row wr w.heap.size 1 _ _ hob
      have v2 := frozen_of_row wr w.heap.size 2 _ _ hob
      have HOB := Lib.hid hob
      have HBE := Lib.hid (dl0 wr)
      have HWE := Lib.hid (hwr.trans ((dl0 wr).mono hwr.size))
      have HSP := Lib.hid (show NT.flat h0 t0 = (pre ++ List.take n1 t) ++ [x] by rw [HFL.out, List.append_assoc, ← last_split hx (by show n1 + 1 = List.length t; omega)]; rfl)
      have q1 : IntKind.i64.wrap ((n : Int) - 1) = (n1 : Int) := by rw [show (n : Int) - 1 = (n1 : Int) by omega]; exact IntWalk.i64_in _ (by omega)
      have hi0 : (0 : Int) ≤ (n1 : Int) := by omega
      have hiI : (n1 : Int) < (n : Int) := by omega
      clear ht hok hlo hlo2 hbk hB0 hfile en en1 hx hxc hwr hob hb hfl hwb
      go_wp2_with fail
      go_region_held3 (fun wx => wx.cell? ⟨b, 0, none⟩ = some (.slice (some ⟨g, o, none⟩) n c1) ∧ wx.cell? ⟨g, o + n1 * 3, none⟩ = some (.string x.f.path) ∧ wx.cell? ⟨g, o + n1 * 3 + 1, none⟩ = some (.int .i64 x.f.ver) ∧ wx.cell? ⟨g, o + n1 * 3 + 2, none⟩ = some (.pointer x.q))
        (first | assumption | exact ⟨y0, y1, y2, y3⟩ | exact HS.out _ HBE.out | exact HS2.out _ (((HWR.out.setCell (Nat.le_refl _) _).setCell (Nat.le_refl _) _).setCell (Nat.le_refl _) _).drew | exact HS2.out _ (((HWR.out.setCell (Nat.le_refl _) _).setCell (Nat.le_refl _) _).setCell (Nat.le_refl _) _) | exact HS2.out _ (((HWE.out.setCell (Nat.le_refl _) _).setCell (Nat.le_refl _) _).setCell (Nat.le_refl _) _))
        ((fail))
      all_goals go_wp2_with fail
      all_goals
        have hob3 := Go.Joins.block_setCell (i := 2) (Go.Joins.block_setCell (i := 1) (Go.Joins.block_setCell (i := 0) HOB.out (.string x.f.path)) (.int .i64 x.f.ver)) (.pointer x.q)
        have q0 := obj_cell hob3 0
        have q1 := obj_cell hob3 1
        have q2 := obj_cell hob3 2
        simp at q0 q1 q2
        have hbz := (((HWR.out.setCell (p := ⟨w.heap.size, 0, none⟩) (Nat.le_refl _) (.string x.f.path)).setCell (p := ⟨w.heap.size, 1, none⟩) (Nat.le_refl _) (.int .i64 x.f.ver)).setCell (p := ⟨w.heap.size, 2, none⟩) (Nat.le_refl _) (.pointer x.q)).drew
        refine bodyPost_ret (v := .agg #[.string x.f.path, .int .i64 x.f.ver, .pointer x.q]) (by simp [results, Try.results46, go_sem, q0, q1, q2]) rfl ⟨_, x, HSP.out, rfl, hbz⟩
    | succ h =>
      obtain ⟨fs, ks⟩ := t
      obtain ⟨ad, hnode, hkl, hkids⟩ := ht
      obtain ⟨o1, o2, o3, o4⟩ := hok
      obtain ⟨n, en⟩ : ∃ n, n = ad.length := ⟨_, rfl⟩
      obtain ⟨n1, en1⟩ : ∃ p, p = n - 1 := ⟨_, rfl⟩
      have hnk : n = ks.length := by rw [en, hkl]
      obtain ⟨k, hk⟩ : ∃ k, ks[ks.length - 1]? = some k := ⟨ks[ks.length - 1]'(by omega), List.getElem?_eq_getElem _⟩
      obtain ⟨a, ha⟩ : ∃ a, ad[n1]? = some a := ⟨ad[n1]'(by omega), List.getElem?_eq_getElem _⟩
      have e1 : n1 = ks.length - 1 := by omega
      have hka := hkids n1 k a (by rw [e1]; exact hk) ha
      have hko := o4 k (List.mem_of_getElem? hk)
      obtain ⟨pre2, hp2⟩ := flat_last o3 hk
      have hbl := hnode.lt
      obtain ⟨A1, c1, A2, c2, hbk, _, _, _, r2⟩ := hnode
      obtain ⟨g2, o2', eA, hcell⟩ := r2.cell (i := n1) (v := ptrV a) (by rw [ksV, List.getElem?_map, ha]; rfl)
      subst eA
      rw [← en] at hbk
      have hwr := HWR.out
      have y0 : wr.cell? ⟨b, 1, none⟩ = some (.slice (some ⟨g2, o2', none⟩) n c2) := (hwr.cell (p := ⟨b, 1, none⟩) hbl).trans (obj_cell hbk 1)
      have y1 : wr.cell? ⟨g2, o2' + n1, none⟩ = some (.pointer (some ⟨a, 0, none⟩)) := (hwr.cell (p := ⟨g2, o2' + n1, none⟩) (World.block_lt_of_cell? _ _ hcell)).trans hcell
      have g1 : decide (0 < (n : Int)) = true := by simp; omega
      have g1n : decide (0 < n) = true := by simp; omega
      have q1 : IntKind.i64.wrap ((n : Int) - 1) = (n1 : Int) := by rw [show (n : Int) - 1 = (n1 : Int) by omega]; exact IntWalk.i64_in _ (by omega)
      have hi0 : (0 : Int) ≤ (n1 : Int) := by omega
      have hiI : (n1 : Int) < (n : Int) := by omega
      have HK := Lib.hid (And.intro hka hko)
      have HK2 := Lib.hid (show NT.flat h0 t0 = (pre ++ pre2) ++ NT.flat h k by rw [HFL.out, hp2, List.append_assoc])
      have HM2 := Lib.hid (HMU.out w a h ⟨k, hka, hko⟩)
      clear hkl hkids o1 o2 o3 o4 en en1 hnk hk ha e1 hka hko hp2 hbl hbk r2 hcell hwr hb hfl hwb
      go_wp2_with fail
      go_quiet (fail)
      go_wp2_with fail
      go_roundw
      case rel => exact ⟨h, k, a, pre ++ pre2, rfl, HK.out.1, HK.out.2, HK2.out, HB.out.trans ((below_drewN2 _ _).mono HB.out.size)⟩
      case measure =>
        show μ w a < μ w b
        rw [HM.out, HM2.out]
        exact Nat.lt_succ_self _
end Go.Proofs.Ytmcohbppeabmgaa

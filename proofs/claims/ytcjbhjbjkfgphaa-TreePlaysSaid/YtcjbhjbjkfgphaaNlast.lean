/-
  A node's last file; how high a node in memory stands. Condition: the node is as the trees' nodes are.
  The program's without: a node without a file that is there. Condition: the node is as the trees' nodes are, its files by rising paths.
-/
import Derived.Test.YtcjbhjbjkfgphaaNweave
import Derived.Test.YtcjbhjbjkfgphaaNhalf
import Derived.Test.YtcjbhjbjkfgphaaNwith
import Derived.Test.YtcjbhjbjkfgphaaNchgb
namespace Go.Proofs.Ytcjbhjbjkfgphaa
open Go.RowKit Go.Deep

theorem node_same {w : World} {b : Nat} {f1 f2 : List FX} {ad bd : List Nat} (ha : NodeAt w b f1 ad) (hb : NodeAt w b f2 bd) : ad = bd := by
  obtain ⟨A1, c1, A2, c2, h1, _, _, _, h2⟩ := ha
  obtain ⟨B1, d1, B2, d2, k1, _, _, _, k2⟩ := hb
  rw [h1] at k1
  simp at k1
  obtain ⟨_, ⟨e2, e3, _⟩⟩ := k1
  subst e2
  refine List.ext_getElem? fun i => ?_
  by_cases hi : i < ad.length
  · have x1 := List.getElem?_eq_getElem hi
    have x2 := List.getElem?_eq_getElem (show i < bd.length by omega)
    obtain ⟨g, o, e, c⟩ := h2.cell (i := i) (v := ptrV ad[i]) (by rw [ksV, List.getElem?_map, x1]; rfl)
    obtain ⟨g', o', e', c'⟩ := k2.cell (i := i) (v := ptrV bd[i]) (by rw [ksV, List.getElem?_map, x2]; rfl)
    subst e
    cases e'
    rw [c] at c'
    simp [ptrV] at c'
    rw [x1, x2, c']
  · rw [List.getElem?_eq_none (by omega), List.getElem?_eq_none (by omega)]
theorem IsN.uniq {w : World} : ∀ {h h' : Nat} {t : NT h} {t' : NT h'} {b : Nat}, IsN w h t b → NT.ok 1 2 h t → IsN w h' t' b → NT.ok 1 2 h' t' → h = h'
  | 0, 0, _, _, _, _, _, _, _ => rfl
  | 0, h' + 1, _, (_, ks'), _, h1, _, ⟨ad', k1, k2, _⟩, ⟨_, _, o3, _⟩ => by
    have := node_same h1 k1
    rw [← this] at k2
    simp at k2
    omega
  | h + 1, 0, (_, ks), _, _, ⟨ad, k1, k2, _⟩, ⟨_, _, o3, _⟩, h1, _ => by
    have := node_same h1 k1
    rw [← this] at k2
    simp at k2
    omega
  | h + 1, h' + 1, (_, ks), (_, ks'), _, ⟨ad, k1, k2, k3⟩, ⟨_, _, o3, o4⟩, ⟨ad', l1, l2, l3⟩, ⟨_, _, p3, p4⟩ => by
    have e := node_same k1 l1
    subst e
    match ks, ks', ad, o3, p3, k2, l2 with
    | k :: _, k' :: _, a :: _, _, _, _, _ =>
      have := IsN.uniq (k3 0 k a rfl rfl) (o4 k List.mem_cons_self) (l3 0 k' a rfl rfl) (p4 k' List.mem_cons_self)
      rw [this]
theorem hgt_ex : ∃ μ : World → Nat → Nat, ∀ w b n, (∃ t : NT n, IsN w n t b ∧ NT.ok 1 2 n t) → μ w b = n := by
  classical
  refine ⟨fun w b => if h : ∃ n, ∃ t : NT n, IsN w n t b ∧ NT.ok 1 2 n t then h.choose else 0, fun w b n hn => ?_⟩
  have he : ∃ n, ∃ t : NT n, IsN w n t b ∧ NT.ok 1 2 n t := ⟨n, hn⟩
  simp only [dif_pos he]
  obtain ⟨t, h1, h2⟩ := he.choose_spec
  obtain ⟨t', k1, k2⟩ := hn
  exact IsN.uniq h1 h2 k1 k2
theorem flat_last {h : Nat} {fs : List FX} {ks : List (NT h)} {k : NT h} (hl : ks.length = fs.length + 1) (hk : ks[ks.length - 1]? = some k) : ∃ pre, NT.flat (h + 1) (fs, ks) = pre ++ NT.flat h k := by
  have hn : ks ≠ [] := fun e => by rw [e] at hl; simp at hl
  obtain ⟨ks', k', rfl⟩ : ∃ a b, ks = a ++ [b] := by
    rcases List.eq_nil_or_concat ks with e | ⟨a, b, e⟩
    · exact absurd e hn
    · exact ⟨a, b, by rw [e, List.concat_eq_append]⟩
  have hk' : k' = k := by simpa using hk
  subst hk'
  have hl' : fs.length = (ks'.map (NT.flat h)).length := by simp at hl; simp; omega
  have := weave_mid (fs1 := fs) (fs2 := []) (ks1 := ks'.map (NT.flat h)) (ks2 := []) (k := NT.flat h k') hl'
  rw [List.append_nil] at this
  refine ⟨headF fs (ks'.map (NT.flat h)), ?_⟩
  show weave fs ((ks' ++ [k']).map (NT.flat h)) = _
  rw [List.map_append, List.map_cons, List.map_nil, this]
  simp [tailF]
theorem below_drewN2 (w : World) (n : Nat) : Below w.heap.size w (w.drewN n) := ⟨rfl, rfl, rfl, Nat.le_refl _, fun _ _ => rfl⟩
theorem last_split {fs : List FX} {n1 : Nat} {x : FX} (hx : fs[n1]? = some x) (hn : n1 + 1 = fs.length) : fs = fs.take n1 ++ [x] := by
  have h := split_at hx
  rw [hn, List.drop_length] at h
  exact h
def LastIs (xs : List FX) (w : World) (e : Ending) (w' : World) : Prop := ∃ c x, xs = c ++ [x] ∧ e = .returned (.agg #[.string x.f.path, .int .i64 x.f.ver, .pointer x.q]) ∧ Below w.heap.size w w'
def LastRel (w : World) (h0 : Nat) (t0 : NT h0) (nv : Value) (wr : World) : Prop := ∃ (h : Nat) (t : NT h) (b : Nat) (pre : List FX), nv = .pointer (some ⟨b, 0, none⟩) ∧ IsN w h t b ∧ NT.ok 1 2 h t ∧ NT.flat h0 t0 = pre ++ NT.flat h t ∧ Below (w.alloc (.cells #[.string ⟨#[]⟩, .int .i64 0, .pointer none] 68)).heap.size (w.alloc (.cells #[.string ⟨#[]⟩, .int .i64 0, .pointer none] 68)) wr

set_option maxRecDepth 100000 in
set_option maxHeartbeats 4000000 in
theorem last_is {w : World} {h0 : Nat} {t0 : NT h0} {b0 : Nat} (hn : IsN w h0 t0 b0) (ho : NT.ok 1 2 h0 t0) : Calls Try.prog 44 #[.pointer (some ⟨b0, 0, none⟩)] w (LastIs (NT.flat h0 t0) w) := by
  obtain ⟨μ, hμ⟩ := hgt_ex
  have HMU := Lib.hid hμ
  have HN := Lib.hid hn
  have HO := Lib.hid ho
  clear hn ho hμ
  go_enter Try.func44, Try.ntmps44
  go_wp2_with fail
  go_loopw [0] (fun nv wr => LastRel w h0 t0 nv wr) (fun nv _ => match nv with | .pointer (some a) => μ w a.block | _ => 0)
  case atStart => exact ⟨h0, t0, b0, [], rfl, HN.out, HO.out, rfl, Below.refl _ _⟩
  case round =>
    obtain ⟨h, t, b, pre, rfl, ht, hok, hfl, hb⟩ := hrel
    have hwb := bl1 w (.cells #[.string ⟨#[]⟩, .int .i64 0, .pointer none] 68)
    have HB := Lib.hid hb
    have HWR := Lib.hid (hwb.trans (hb.mono hwb.size))
    have HFL := Lib.hid hfl
    have HM := Lib.hid (HMU.out w b h ⟨t, ht, hok⟩)
    cases h with
    | zero =>
      have hnode : NodeAt w b t [] := ht
      have hlo := hok.1
      have hlo2 := hok.2
      obtain ⟨A1, c1, hB0, _, _, hfile⟩ := hnode.file
      obtain ⟨A1', c1', A2, c2, hbk, _, _, _, _⟩ := hnode
      obtain ⟨n, en⟩ : ∃ n, n = List.length t := ⟨_, rfl⟩
      obtain ⟨n1, en1⟩ : ∃ p, p = n - 1 := ⟨_, rfl⟩
      rw [← en] at hbk hB0 hlo hlo2
      obtain ⟨x, hx⟩ : ∃ x, (show List FX from t)[n1]? = some x := ⟨(show List FX from t)[n1]'(by show n1 < List.length t; omega), List.getElem?_eq_getElem _⟩
      obtain ⟨g, o, eA, hxc⟩ := hfile n1 x hx
      subst eA
      have hwr := HWR.out
      have HS := Lib.hid fun (W : World) (hW : Below wr.heap.size wr W) => (⟨hB0 W (hwr.trans (hW.mono hwr.size)), hxc W (hwr.trans (hW.mono hwr.size))⟩ : W.cell? ⟨b, 0, none⟩ = some (.slice (some ⟨g, o, none⟩) n c1) ∧ W.cell? ⟨g, o + n1 * 3, none⟩ = some (.string x.f.path) ∧ W.cell? ⟨g, o + n1 * 3 + 1, none⟩ = some (.int .i64 x.f.ver) ∧ W.cell? ⟨g, o + n1 * 3 + 2, none⟩ = some (.pointer x.q))
      have HS2 := Lib.hid fun (W : World) (hW : Below w.heap.size w W) => (⟨hB0 W hW, hxc W hW⟩ : W.cell? ⟨b, 0, none⟩ = some (.slice (some ⟨g, o, none⟩) n c1) ∧ W.cell? ⟨g, o + n1 * 3, none⟩ = some (.string x.f.path) ∧ W.cell? ⟨g, o + n1 * 3 + 1, none⟩ = some (.int .i64 x.f.ver) ∧ W.cell? ⟨g, o + n1 * 3 + 2, none⟩ = some (.pointer x.q))
      obtain ⟨y0, y1, y2, y3⟩ := HS.out wr (Below.refl _ _)
      have yk : wr.cell? ⟨b, 1, none⟩ = some (.slice A2 0 c2) := (hwr.cell (p := ⟨b, 1, none⟩) (Array.getElem?_eq_some_iff.1 hbk).1).trans (obj_cell hbk 1)
      have hob : wr.heap[w.heap.size]? = some (.cells #[.string ⟨#[]⟩, .int .i64 0, .pointer none] 68) := (hb.block w.heap.size (by simp)).trans (heap_alloc_new w _)
      have z0 := obj_cell hob 0
      have z1 := obj_cell hob 1
      have z2 := obj_cell hob 2
      have v0 := frozen_of_row wr w.heap.size 0 _ _ hob
      have v1 := frozen_of_row wr w.heap.size 1 _ _ hob
      have v2 := frozen_of_row wr w.heap.size 2 _ _ hob
      have HOB := Lib.hid hob
      have HBE := Lib.hid (dl0 wr)
      have HWE := Lib.hid (hwr.trans ((dl0 wr).mono hwr.size))
      have HSP := Lib.hid (show NT.flat h0 t0 = (pre ++ List.take n1 t) ++ [x] by rw [HFL.out, List.append_assoc, ← last_split hx (by show n1 + 1 = List.length t; omega)]; rfl)
      have q1 : IntKind.i64.wrap ((n : Int) - 1) = (n1 : Int) := by rw [show (n : Int) - 1 = (n1 : Int) by omega]; exact IntWalk.i64_in _ (by omega)
      have hi0 : (0 : Int) ≤ (n1 : Int) := by omega
      have hiI : (n1 : Int) < (n : Int) := by omega
      clear ht hok hlo hlo2 hbk hB0 hfile en en1 hx hxc hwr hob hb hfl hwb
      go_wp2_with fail
      go_region_held3 (fun wx => wx.cell? ⟨b, 0, none⟩ = some (.slice (some ⟨g, o, none⟩) n c1) ∧ wx.cell? ⟨g, o + n1 * 3, none⟩ = some (.string x.f.path) ∧ wx.cell? ⟨g, o + n1 * 3 + 1, none⟩ = some (.int .i64 x.f.ver) ∧ wx.cell? ⟨g, o + n1 * 3 + 2, none⟩ = some (.pointer x.q))
        (first | assumption | exact ⟨y0, y1, y2, y3⟩ | exact HS.out _ HBE.out | exact HS2.out _ (((HWR.out.setCell (Nat.le_refl _) _).setCell (Nat.le_refl _) _).setCell (Nat.le_refl _) _).drew | exact HS2.out _ (((HWR.out.setCell (Nat.le_refl _) _).setCell (Nat.le_refl _) _).setCell (Nat.le_refl _) _) | exact HS2.out _ (((HWE.out.setCell (Nat.le_refl _) _).setCell (Nat.le_refl _) _).setCell (Nat.le_refl _) _))
        ((fail))
      all_goals go_wp2_with fail
      all_goals
        have hob3 := Go.Joins.block_setCell (i := 2) (Go.Joins.block_setCell (i := 1) (Go.Joins.block_setCell (i := 0) HOB.out (.string x.f.path)) (.int .i64 x.f.ver)) (.pointer x.q)
        have q0 := obj_cell hob3 0
        have q1 := obj_cell hob3 1
        have q2 := obj_cell hob3 2
        simp at q0 q1 q2
        have hbz := (((HWR.out.setCell (p := ⟨w.heap.size, 0, none⟩) (Nat.le_refl _) (.string x.f.path)).setCell (p := ⟨w.heap.size, 1, none⟩) (Nat.le_refl _) (.int .i64 x.f.ver)).setCell (p := ⟨w.heap.size, 2, none⟩) (Nat.le_refl _) (.pointer x.q)).drew
        refine bodyPost_ret (v := .agg #[.string x.f.path, .int .i64 x.f.ver, .pointer x.q]) (by simp [results, Try.results44, go_sem, q0, q1, q2]) rfl ⟨_, x, HSP.out, rfl, hbz⟩
    | succ h =>
      obtain ⟨fs, ks⟩ := t
      obtain ⟨ad, hnode, hkl, hkids⟩ := ht
      obtain ⟨o1, o2, o3, o4⟩ := hok
      obtain ⟨n, en⟩ : ∃ n, n = ad.length := ⟨_, rfl⟩
      obtain ⟨n1, en1⟩ : ∃ p, p = n - 1 := ⟨_, rfl⟩
      have hnk : n = ks.length := by rw [en, hkl]
      obtain ⟨k, hk⟩ : ∃ k, ks[ks.length - 1]? = some k := ⟨ks[ks.length - 1]'(by omega), List.getElem?_eq_getElem _⟩
      obtain ⟨a, ha⟩ : ∃ a, ad[n1]? = some a := ⟨ad[n1]'(by omega), List.getElem?_eq_getElem _⟩
      have e1 : n1 = ks.length - 1 := by omega
      have hka := hkids n1 k a (by rw [e1]; exact hk) ha
      have hko := o4 k (List.mem_of_getElem? hk)
      obtain ⟨pre2, hp2⟩ := flat_last o3 hk
      have hbl := hnode.lt
      obtain ⟨A1, c1, A2, c2, hbk, _, _, _, r2⟩ := hnode
      obtain ⟨g2, o2', eA, hcell⟩ := r2.cell (i := n1) (v := ptrV a) (by rw [ksV, List.getElem?_map, ha]; rfl)
      subst eA
      rw [← en] at hbk
      have hwr := HWR.out
      have y0 : wr.cell? ⟨b, 1, none⟩ = some (.slice (some ⟨g2, o2', none⟩) n c2) := (hwr.cell (p := ⟨b, 1, none⟩) hbl).trans (obj_cell hbk 1)
      have y1 : wr.cell? ⟨g2, o2' + n1, none⟩ = some (.pointer (some ⟨a, 0, none⟩)) := (hwr.cell (p := ⟨g2, o2' + n1, none⟩) (World.block_lt_of_cell? _ _ hcell)).trans hcell
      have g1 : decide (0 < (n : Int)) = true := by simp; omega
      have g1n : decide (0 < n) = true := by simp; omega
      have q1 : IntKind.i64.wrap ((n : Int) - 1) = (n1 : Int) := by rw [show (n : Int) - 1 = (n1 : Int) by omega]; exact IntWalk.i64_in _ (by omega)
      have hi0 : (0 : Int) ≤ (n1 : Int) := by omega
      have hiI : (n1 : Int) < (n : Int) := by omega
      have HK := Lib.hid (And.intro hka hko)
      have HK2 := Lib.hid (show NT.flat h0 t0 = (pre ++ pre2) ++ NT.flat h k by rw [HFL.out, hp2, List.append_assoc])
      have HM2 := Lib.hid (HMU.out w a h ⟨k, hka, hko⟩)
      clear hkl hkids o1 o2 o3 o4 en en1 hnk hk ha e1 hka hko hp2 hbl hbk r2 hcell hwr hb hfl hwb
      go_wp2_with fail
      go_quiet (fail)
      go_wp2_with fail
      go_roundw
      case rel => exact ⟨h, k, a, pre ++ pre2, rfl, HK.out.1, HK.out.2, HK2.out, HB.out.trans ((below_drewN2 _ _).mono HB.out.size)⟩
      case measure =>
        show μ w a < μ w b
        rw [HM.out, HM2.out]
        exact Nat.lt_succ_self _
end Go.Proofs.Ytcjbhjbjkfgphaa

namespace Go.Proofs.Ytcjbhjbjkfgphaa
open Go.RowKit Go.Deep

theorem changed_is {w : World} {h : Nat} {fs : List FX} {ks : List (NT h)} {b i k : Nat} {T : NT h} (hn : IsN w (h + 1) (fs, ks) b) (ho : NT.ok 1 2 (h + 1) (fs, ks)) (hi : i < ks.length) (hT : IsN w h T k) (oT : NT.ok 0 3 h T) :
    Calls Try.prog 42 #[.pointer (some ⟨b, 0, none⟩), .int .i64 (i : Int), .pointer (some ⟨k, 0, none⟩)] w (ChangedIs h fs (ks.take i ++ [T] ++ ks.drop (i + 1)) T w) := by
  by_cases h0 : (NT.files h T).length = 0
  · exact changed_b hn ho hi hT (oT.to (by omega) (by omega))
  · exact changed_a hn ho hi hT (oT.to (by omega) oT.len.2)
/-- What without gives. -/
def WithoutIs (h : Nat) (t : NT h) (p : ByteArray) (w : World) (e : Ending) (w' : World) : Prop := ∃ (r : NT h) (b : Nat), e = .returned (.pointer (some ⟨b, 0, none⟩)) ∧ IsN w' h r b ∧ CutX (NT.flat h t) p (NT.flat h r) ∧ (NT.files h t).length ≤ (NT.files h r).length + 1 ∧ (NT.files h r).length ≤ (NT.files h t).length ∧
  (∀ lo hi, lo ≤ (NT.files h r).length → (NT.files h r).length ≤ hi → NT.ok lo hi h r) ∧ Below w.heap.size w w'
theorem cut_set {fs : List FX} {kk : List (List FX)} {i : Nat} {o f : FX} {c : List FX} (hl : kk.length = fs.length + 1) (ho : fs[i]? = some o) (hk : kk[i]? = some (c ++ [f])) (hr : RisingX (weave fs kk)) : CutX (weave fs kk) o.f.path (weave (fs.take i ++ [f] ++ fs.drop (i + 1)) (kk.take i ++ [c] ++ kk.drop (i + 1))) := by
  obtain ⟨A, k, B, h1, h2, h3⟩ := weave_set hl ho
  rw [hk] at h1
  cases h1
  rw [h3 c f]
  rw [h2] at hr ⊢
  have e1 : A ++ (c ++ [f] ++ o :: B) = (A ++ (c ++ [f])) ++ o :: B := by simp
  have e2 : A ++ (c ++ f :: B) = (A ++ (c ++ [f])) ++ B := by simp
  rw [e1] at hr ⊢
  rw [e2]
  exact cut_mid hr rfl
theorem cut_list {fs : List FX} {i : Nat} {o : FX} (hx : fs[i]? = some o) (hr : RisingX fs) : CutX fs o.f.path (fs.take i ++ [] ++ fs.drop (i + 1)) := by
  have hr' : RisingX (fs.take i ++ o :: fs.drop (i + 1)) := by rw [← split_at hx]; exact hr
  have := cut_mid hr' rfl
  rw [← split_at hx] at this
  rw [List.append_nil]
  exact this
theorem len_del {fs : List FX} {i i1 n : Nat} (hn : n = fs.length) (hi : i ≤ n) : (fs.take i ++ [] ++ fs.drop i1).length = i + 0 + (n - i1) := by
  simp
  omega
theorem not_there {fs : List FX} {p : ByteArray} {i : Nat} (h : PlaceIs fs p i false) : ∀ x ∈ fs, x.f.path ≠ p := fun x hx e => by
  rw [← List.take_append_drop i fs] at hx
  rcases List.mem_append.1 hx with hx | hx
  · have := h.lt x hx
    rw [e, pless_irrefl] at this
    cases this
  · have := h.no rfl x hx
    rw [e, pless_irrefl] at this
    cases this

set_option maxRecDepth 100000 in
set_option maxHeartbeats 4000000 in
theorem without_step (h : Nat) (ih : ∀ h', h = h' + 1 → ∀ (p : ByteArray) (t : NT h') (b : Nat) (w : World), IsN w h' t b → NT.ok 1 2 h' t → RisingX (NT.flat h' t) → (∃ x ∈ NT.flat h' t, x.f.path = p) → Calls Try.prog 31 #[.pointer (some ⟨b, 0, none⟩), .string p] w (WithoutIs h' t p w))
    (p : ByteArray) (t : NT h) (b : Nat) (w : World) (ht : IsN w h t b) (ho : NT.ok 1 2 h t) (hr : RisingX (NT.flat h t)) (hin : ∃ x ∈ NT.flat h t, x.f.path = p) :
    Calls Try.prog 31 #[.pointer (some ⟨b, 0, none⟩), .string p] w (WithoutIs h t p w) := by
  obtain ⟨ad, hnode, hka, hk0⟩ := IsN.node ht ho
  have hfr := NT.rising ho hr
  have hfl := ho.len
  obtain ⟨n, en⟩ : ∃ n, n = (NT.files h t).length := ⟨_, rfl⟩
  obtain ⟨m, em⟩ : ∃ m, m = ad.length := ⟨_, rfl⟩
  have hbl := hnode.lt
  have hnode0 := hnode
  obtain ⟨A1, c1, A2, c2, hb, hc1, hc2, r1, r2⟩ := hnode
  rw [← en, ← em] at hb
  have HC := Lib.hid fun (W : World) (hW : Below w.heap.size w W) => show W.cell? ⟨b, 0, none⟩ = some (.slice A1 n c1) ∧ W.cell? ⟨b, 1, none⟩ = some (.slice A2 m c2) from
    ⟨(hW.cell (p := ⟨b, 0, none⟩) hbl).trans (obj_cell hb 0), (hW.cell (p := ⟨b, 1, none⟩) hbl).trans (obj_cell hb 1)⟩
  have HP := Lib.hid (place_is p hnode0 hfr (by omega))
  have HT := Lib.hid ht
  have HOK := Lib.hid ho
  have HR := Lib.hid hr
  have HN := Lib.hid hnode0
  have HFL := Lib.hid hfl
  have EN := Lib.hid en
  have EM := Lib.hid em
  have HKA := Lib.hid (And.intro hka hk0)
  have HR1 := Lib.hid (And.intro hc1 (And.intro r1 (And.intro hc2 r2)))
  have IH := Lib.hid ih
  have HIN := Lib.hid hin
  clear ht ho hr hnode0 hka hk0 hfr hfl hb hbl en em hc1 r1 hc2 r2 ih hin
  go_enter Try.func31, Try.ntmps31
  go_wp2_with fail
  go_at_call 40
  (with_reducible refine HP.out.mono ?_)
  rintro e w1 ⟨i, th, rfl, hpl, hb1⟩
  have HB1 := Lib.hid hb1
  have HPL := Lib.hid hpl
  obtain ⟨y3, y4⟩ := HC.out w1 hb1
  obtain ⟨i1, ei1⟩ : ∃ q, q = i + 1 := ⟨_, rfl⟩
  have hile : i ≤ n := by rw [EN.out]; exact hpl.le
  have hn2 : n ≤ 2 := by rw [EN.out]; exact HFL.out.2
  have q1 : IntKind.i64.wrap ((i : Int) + 1) = (i1 : Int) := by rw [show (i : Int) + 1 = (i1 : Int) by omega]; exact IntWalk.i64_in _ (by omega)
  cases h with
  | zero =>
    have hm0 : m = 0 := by rw [EM.out, HKA.out.2 rfl]; rfl
    subst hm0
    have hth : th = true := by
      cases th with
      | true => rfl
      | false =>
        obtain ⟨x, hx, hxp⟩ := HIN.out
        exact absurd hxp (not_there hpl x hx)
    subst hth
    obtain ⟨o, hx, hxp⟩ := hpl.is rfl
    have hlt : i < n := by rw [EN.out]; exact (List.getElem?_eq_some_iff.1 hx).1
    have HSF := Lib.hid (splF (W := w1) (A := A1) (B := none) (n := n) (c := c1) (m := 0) (d := 0) (xs := NT.files 0 t) (ys := []) i i1 (by omega) (by omega) (by rw [EN.out]; exact HR1.out.1) EN.out rfl (by omega) (by omega) (HR1.out.2.1.below hb1) (RawAt.nil _ _))
    have HLN := Lib.hid (show (@List.append FX (List.append (@List.take FX i t) []) (@List.drop FX i1 t)).length = i + 0 + (n - i1) from len_del EN.out hile)
    have HI1 := Lib.hid ei1
    have HNI := Lib.hid hlt
    have HX := Lib.hid hx
    subst hxp
    clear hpl hb1 hile hn2 ei1 hx hlt
    go_wp2_with fail
    go_at_call 41
    (with_reducible refine HSF.out.mono ?_)
    rintro e w2 ⟨F, cf, rfl, hcf, hF, hb2⟩
    have HW2 := Lib.hid (HB1.out.trans (hb2.mono HB1.out.size))
    have HF := Lib.hid (And.intro hcf hF)
    obtain ⟨nf, enf⟩ : ∃ q, q = i + 0 + (n - i1) := ⟨_, rfl⟩
    rw [← enf] at HF HLN ⊢
    have ENF := Lib.hid enf
    clear hcf hF hb2 enf
    go_wp2_with fail
    go_ret
    have hb3 := bl1 w2 (.cells #[.slice F nf cf, .slice none 0 0] 77)
    have hnew := heap_alloc_new w2 (.cells #[.slice F nf cf, .slice none 0 0] 77)
    have hw3 := HW2.out.trans (hb3.mono HW2.out.size)
    have henf := ENF.out
    have hen : n = (NT.files 0 t).length := EN.out
    have hni := HNI.out
    have hei := HI1.out
    have hcut := cut_list HX.out (show RisingX (show List FX from t) from HR.out)
    rw [← hei] at hcut
    refine ⟨(@List.append FX (List.append (@List.take FX i t) []) (@List.drop FX i1 t)), _, rfl, ⟨F, cf, none, 0, ?_, ?_, Nat.le_refl _, HF.out.2.below hb3, RawAt.nil _ _⟩, hcut, ?_, ?_, fun lo hi h1 h2 => ⟨h1, h2⟩, hw3⟩
    · rw [HLN.out]
      exact hnew
    · rw [HLN.out]
      exact HF.out.1
    · rw [show (NT.files 0 (@List.append FX (List.append (@List.take FX i t) []) (@List.drop FX i1 t))).length = nf from HLN.out]
      omega
    · rw [show (NT.files 0 (@List.append FX (List.append (@List.take FX i t) []) (@List.drop FX i1 t))).length = nf from HLN.out]
      omega
  | succ h =>
    obtain ⟨fs, ks⟩ := t
    obtain ⟨ad2, hn2', hkl, hkids⟩ := HT.out
    have e2 : ad2 = ad := same_kids hn2' HN.out
    subst e2
    obtain ⟨o1, o2, o3, o4⟩ := HOK.out
    have hnf : n = fs.length := EN.out
    have hmk : m = ks.length := by rw [EM.out, hkl]
    have hik : i < ks.length := by omega
    obtain ⟨T0, hT0⟩ : ∃ t, ks[i]? = some t := ⟨ks[i]'hik, List.getElem?_eq_getElem _⟩
    obtain ⟨a0, ha0⟩ : ∃ a, ad2[i]? = some a := ⟨ad2[i]'(by rw [hkl]; exact hik), List.getElem?_eq_getElem _⟩
    have hk0 := hkids i T0 a0 hT0 ha0
    have ho0 := o4 T0 (List.mem_of_getElem? hT0)
    have hll : (ks.map (NT.flat h)).length = fs.length + 1 := by rw [List.length_map]; exact o3
    have hf0 : (ks.map (NT.flat h))[i]? = some (NT.flat h T0) := by rw [List.getElem?_map, hT0]; rfl
    have hr0 : RisingX (NT.flat h T0) := rising_kid hll hf0 HR.out
    obtain ⟨g2, o2', eA2, hcell⟩ := HR1.out.2.2.2.cell (i := i) (v := ptrV a0) (by rw [ksV, List.getElem?_map, ha0]; rfl)
    subst eA2
    have HKC := Lib.hid fun (W : World) (hW : Below w.heap.size w W) => (⟨(HC.out W hW).1, (HC.out W hW).2, (hW.cell (p := ⟨g2, o2' + i, none⟩) (World.block_lt_of_cell? _ _ hcell)).trans hcell⟩ : W.cell? ⟨b, 0, none⟩ = some (.slice A1 n c1) ∧ W.cell? ⟨b, 1, none⟩ = some (.slice (some ⟨g2, o2', none⟩) m c2) ∧ W.cell? ⟨g2, o2' + i, none⟩ = some (.pointer (some ⟨a0, 0, none⟩)))
    obtain ⟨_, _, y5⟩ := HKC.out w1 hb1
    have HIH := Lib.hid fun (q : ByteArray) (W : World) (hW : Below w.heap.size w W) (hq : ∃ x ∈ NT.flat h T0, x.f.path = q) => IH.out h rfl q T0 a0 W (hk0.below hW) ho0 hr0 hq
    have HO0 := Lib.hid ho0.len
    have gm : ((m : Int) == 0) = false := by simp; omega
    have gmn : (m == 0) = false := by simp; omega
    have hi0 : (0 : Int) ≤ (i : Int) := by omega
    have hiI : (i : Int) < (m : Int) := by omega
    cases th with
    | false =>
      have hin0 : ∃ x ∈ NT.flat h T0, x.f.path = p := by
        obtain ⟨x, hx, hxp⟩ := HIN.out
        exact ⟨x, in_kid hll hf0 HR.out hpl hx hxp, hxp⟩
      have HIH1 := Lib.hid (HIH.out p w1 hb1 hin0)
      have HCH := Lib.hid fun (W : World) (T' : NT h) (k' : Nat) (hW : Below w.heap.size w W) (hT' : IsN W h T' k') (oT' : NT.ok 0 3 h T') => changed_is (h := h) (fs := fs) (ks := ks) (HT.out.below hW) HOK.out hik hT' oT'
      have HCUT := Lib.hid fun (T' : NT h) (hp : CutX (NT.flat h T0) p (NT.flat h T')) => cut_kid hll hf0 HR.out HPL.out hp
      clear hpl hb1 hile hn2 hn2' ei1 q1 hkl hkids o1 o2 o3 o4 hnf hmk hik hT0 ha0 hk0 ho0 hll hf0 hr0 hcell hin0
      go_wp2_with fail
      go_at_call 31
      (with_reducible refine HIH1.out.mono ?_)
      rintro e w2 ⟨T', k', rfl, hT', hcut, hl1, hl2, hok', hb2⟩
      have HW2 := Lib.hid (HB1.out.trans (hb2.mono HB1.out.size))
      have HT' := Lib.hid hT'
      have HP' := Lib.hid (HCUT.out T' hcut)
      have HO' := Lib.hid (hok' 0 3 (Nat.zero_le _) (Nat.le_trans hl2 (Nat.le_trans HO0.out.2 (Nat.le_succ 2)))); have HO2 := Lib.hid (Nat.le_trans hl2 HO0.out.2)
      clear hT' hcut hl1 hl2 hok' hb2
      go_wp2_with fail
      go_at_call 42
      (with_reducible refine (HCH.out _ _ _ HW2.out HT'.out HO'.out).mono ?_)
      rintro e w3 ⟨r, k3, rfl, hr1, hr2, hr3, _, _, hr5b, hr6, hb3⟩
      have HW3 := Lib.hid (HW2.out.trans (hb3.mono HW2.out.size))
      have HRR := Lib.hid (And.intro hr1 (And.intro hr2 (And.intro hr3 (And.intro (hr5b HO2.out) hr6))))
      clear hr1 hr2 hr3 hr5b hr6 hb3
      go_wp2_with fail
      go_ret
      refine ⟨r, k3, rfl, HRR.out.1, ?_, HRR.out.2.2.1, HRR.out.2.2.2.1, HRR.out.2.2.2.2, HW3.out⟩
      have h := HP'.out
      rw [HRR.out.2.1, List.map_append, List.map_append, List.map_take, List.map_drop]
      exact h
    | true =>
      obtain ⟨o, hx, hxp⟩ := hpl.is rfl
      have hx : fs[i]? = some o := hx
      have hlt : i < n := by rw [hnf]; exact (List.getElem?_eq_some_iff.1 hx).1
      subst hxp
      have HLAST := Lib.hid (last_is (hk0.below hb1) ho0)
      have HNF := Lib.hid (And.intro hnf hlt)
      have HSF := Lib.hid fun (f : FX) (W : World) (g : Nat) (hW : Below w.heap.size w W) (hg : W.heap[g]? = some (.cells #[.string f.f.path, .int .i64 f.f.ver, .pointer f.q] 68)) => splF (W := W) (A := A1) (B := some ⟨g, 0, none⟩) (n := n) (c := c1) (m := 1) (d := 1) (xs := fs) (ys := [f]) i i1 (by omega) (by omega) (by rw [hnf]; exact HR1.out.1) hnf rfl (by omega) (by omega) (HR1.out.2.1.below hW) (raw_one hg)
      have HKS := Lib.hid (show KidsAre w h ks ad2 from ⟨hkl, hkids⟩)
      have HOKS := Lib.hid (And.intro o3 o4)
      have HCUT := Lib.hid fun (c : List FX) (f : FX) (e : NT.flat h T0 = c ++ [f]) => cut_set hll hx (by rw [hf0, e]) HR.out
      have HI1 := Lib.hid ei1
      have HIK := Lib.hid hik
      have HRT := Lib.hid hr0
      clear hpl hb1 hile hn2 hn2' ei1 hkl hkids o1 o2 o3 o4 hnf hmk hik hT0 ha0 hk0 ho0 hll hf0 hr0 hcell hx hlt
      go_wp2_with fail
      go_at_call 44
      (with_reducible refine HLAST.out.mono ?_)
      rintro e w2 ⟨c, f, hcf, rfl, hb2⟩
      have HCF := Lib.hid hcf
      have HB2 := Lib.hid (HB1.out.trans (hb2.mono HB1.out.size))
      obtain ⟨W3, eW3⟩ : ∃ W, W = w2.alloc (.cells #[.string f.f.path, .int .i64 f.f.ver, .pointer f.q] 68) := ⟨_, rfl⟩
      have hb3 : Below w2.heap.size w2 W3 := by rw [eW3]; exact bl1 _ _
      have hof : W3.heap[w2.heap.size]? = some (.cells #[.string f.f.path, .int .i64 f.f.ver, .pointer f.q] 68) := by rw [eW3]; exact heap_alloc_new w2 _
      have hs3 : w2.heap.size < W3.heap.size := by rw [eW3]; simp
      have HW3 := Lib.hid (HB2.out.trans (hb3.mono HB2.out.size))
      have HFC := Lib.hid fun (W : World) (hW : Below W3.heap.size W3 W) => (⟨HKC.out W (HW3.out.trans (hW.mono HW3.out.size)), (hW.cell (p := ⟨w2.heap.size, 0, none⟩) hs3).trans (obj_cell hof 0), (hW.cell (p := ⟨w2.heap.size, 1, none⟩) hs3).trans (obj_cell hof 1), (hW.cell (p := ⟨w2.heap.size, 2, none⟩) hs3).trans (obj_cell hof 2)⟩ : (W.cell? ⟨b, 0, none⟩ = some (.slice A1 n c1) ∧ W.cell? ⟨b, 1, none⟩ = some (.slice (some ⟨g2, o2', none⟩) m c2) ∧ W.cell? ⟨g2, o2' + i, none⟩ = some (.pointer (some ⟨a0, 0, none⟩))) ∧ W.cell? ⟨w2.heap.size, 0, none⟩ = some (.string f.f.path) ∧ W.cell? ⟨w2.heap.size, 1, none⟩ = some (.int .i64 f.f.ver) ∧ W.cell? ⟨w2.heap.size, 2, none⟩ = some (.pointer f.q))
      obtain ⟨⟨x3, x4, x5⟩, t0, t1, t2⟩ := HFC.out W3 (Below.refl _ _)
      have HRW := Lib.hid (Below.refl W3.heap.size W3)
      have HRD := Lib.hid (dl0 W3)
      have HRA := Lib.hid (dl1 W3 (.cells #[.string f.f.path, .int .i64 f.f.ver, .pointer f.q] 68))
      have HWA := Lib.hid (HW3.out.trans (HRA.out.mono HW3.out.size))
      have hs3e : W3.heap.size = w2.heap.size + 1 := by rw [eW3]; simp
      have HWG := Lib.hid (show (W3.alloc (.cells #[.string f.f.path, .int .i64 f.f.ver, .pointer f.q] 68)).drew.heap[w2.heap.size + 1]? = some (.cells #[.string f.f.path, .int .i64 f.f.ver, .pointer f.q] 68) from by
        have h := hd1 W3 (.cells #[.string f.f.path, .int .i64 f.f.ver, .pointer f.q] 68)
        rw [hs3e] at h
        exact h)
      clear hs3e
      rw [eW3] at HFC x3 x4 x5 t0 t1 t2 HRW HRD HRA HWA HWG HW3
      clear hb2 hcf hb3 hof hs3 y3 y4 y5 eW3
      go_wp2_with fail
      go_region_held3 (fun wx => (wx.cell? ⟨b, 0, none⟩ = some (.slice A1 n c1) ∧ wx.cell? ⟨b, 1, none⟩ = some (.slice (some ⟨g2, o2', none⟩) m c2) ∧ wx.cell? ⟨g2, o2' + i, none⟩ = some (.pointer (some ⟨a0, 0, none⟩))) ∧ wx.cell? ⟨w2.heap.size, 0, none⟩ = some (.string f.f.path) ∧ wx.cell? ⟨w2.heap.size, 1, none⟩ = some (.int .i64 f.f.ver) ∧ wx.cell? ⟨w2.heap.size, 2, none⟩ = some (.pointer f.q))
        (first | assumption | exact ⟨⟨x3, x4, x5⟩, t0, t1, t2⟩ | exact HFC.out _ HRW.out | exact HFC.out _ HRD.out | exact HFC.out _ HRA.out | exact HFC.out _ HB4.out | exact HFC.out _ (Below.alloc HB4.out HB4.out.size _))
        ((go_at_call 41; (with_reducible refine (HSF.out f _ _ HWA.out HWG.out).mono ?_); rintro e w4 ⟨F, cf, rfl, hcf', hF, hb4⟩; have HB4 := Lib.hid (HRA.out.trans (hb4.mono HRA.out.size)); have HW4 := Lib.hid (HWA.out.trans (hb4.mono HWA.out.size)); have HF := Lib.hid (And.intro hcf' hF); clear hcf' hF hb4))
      go_wp2_with fail
      obtain ⟨nf, enf⟩ : ∃ q, q = i + 1 + (n - i1) := ⟨_, rfl⟩
      rw [← enf] at HF ⊢
      obtain ⟨W5, eW5⟩ : ∃ W, W = w4.alloc (.cells #[.slice F nf cf, .slice (some ⟨g2, o2', none⟩) m c2] 77) := ⟨_, rfl⟩
      have hb5 : Below w4.heap.size w4 W5 := by rw [eW5]; exact bl1 _ _
      have hnew : W5.heap[w4.heap.size]? = some (.cells #[.slice F nf cf, .slice (some ⟨g2, o2', none⟩) m c2] 77) := by rw [eW5]; exact heap_alloc_new w4 _
      have hw5 := HW4.out.trans (hb5.mono HW4.out.size)
      have hnl : (fs.take i ++ [f] ++ fs.drop (i + 1)).length = fs.length := by
        have := HNF.out
        simp
        omega
      have hnf2 : nf = fs.length := by
        have := HNF.out
        have := HI1.out
        omega
      have hat : NodeAt W5 w4.heap.size (fs.take i ++ [f] ++ fs.drop (i + 1)) ad2 := ⟨F, cf, some ⟨g2, o2', none⟩, c2, by rw [hnl, ← hnf2, ← EM.out]; exact hnew, by rw [hnl, ← hnf2]; exact HF.out.1, HR1.out.2.2.1, by rw [← HI1.out]; exact HF.out.2.below hb5, HR1.out.2.2.2.below hw5⟩
      have HMOV := Lib.hid (show IsN W5 (h + 1) (fs.take i ++ [f] ++ fs.drop (i + 1), ks) w4.heap.size from ⟨ad2, hat, (HKS.out.below hw5).1, (HKS.out.below hw5).2⟩)
      have HMOK := Lib.hid (show NT.ok 1 2 (h + 1) (fs.take i ++ [f] ++ fs.drop (i + 1), ks) from ⟨by rw [hnl]; exact HFL.out.1, by rw [hnl]; exact HFL.out.2, by rw [hnl]; exact HOKS.out.1, HOKS.out.2⟩)
      have HCH := Lib.hid fun (W : World) (T' : NT h) (k' : Nat) (hW : Below W5.heap.size W5 W) (hT' : IsN W h T' k') (oT' : NT.ok 0 3 h T') => changed_is (h := h) (HMOV.out.below hW) HMOK.out HIK.out hT' oT'
      have HIH2 := Lib.hid (HIH.out f.f.path W5.drew (hw5.trans ((dl0 W5).mono hw5.size)) ⟨f, by rw [HCF.out]; simp, rfl⟩)
      have HNL := Lib.hid hnl
      have HW5 := Lib.hid hw5
      have HD5 := Lib.hid (dl0 W5)
      have HB5 := Lib.hid (HB4.out.trans (hb5.mono HB4.out.size))
      clear x3 x4 x5 t0 t1 t2
      obtain ⟨⟨x3, x4, x5⟩, t0, t1, t2⟩ := HFC.out W5 HB5.out
      have HB6 := Lib.hid (HB5.out.trans (HD5.out.mono HB5.out.size))
      clear enf hb5 hnew hw5 hnl hnf2 hat
      rw [← eW5]
      clear eW5
      go_region_held3 (fun wx => (wx.cell? ⟨b, 0, none⟩ = some (.slice A1 n c1) ∧ wx.cell? ⟨b, 1, none⟩ = some (.slice (some ⟨g2, o2', none⟩) m c2) ∧ wx.cell? ⟨g2, o2' + i, none⟩ = some (.pointer (some ⟨a0, 0, none⟩))) ∧ wx.cell? ⟨w2.heap.size, 0, none⟩ = some (.string f.f.path) ∧ wx.cell? ⟨w2.heap.size, 1, none⟩ = some (.int .i64 f.f.ver) ∧ wx.cell? ⟨w2.heap.size, 2, none⟩ = some (.pointer f.q))
        (first | assumption | exact ⟨⟨x3, x4, x5⟩, t0, t1, t2⟩ | exact HFC.out _ HB5.out | exact HFC.out _ HB6.out | exact HFC.out _ HB7.out | exact HFC.out _ HB8.out)
        (first
          | (go_at_call 31; (with_reducible refine HIH2.out.mono ?_); rintro e w6 ⟨T', k', rfl, hT', hcut, hl1, hl2, hok', hb7⟩; have HB7 := Lib.hid (HB6.out.trans (hb7.mono HB6.out.size)); have HD7 := Lib.hid (HD5.out.trans (hb7.mono HD5.out.size)); have HT' := Lib.hid hT'; have HP' := Lib.hid hcut; have HO' := Lib.hid (hok' 0 3 (Nat.zero_le _) (Nat.le_trans hl2 (Nat.le_trans HO0.out.2 (Nat.le_succ 2)))); have HO2 := Lib.hid (Nat.le_trans hl2 HO0.out.2); clear hT' hcut hl1 hl2 hok' hb7)
          | (go_at_call 42; (with_reducible refine (HCH.out _ _ _ HD7.out HT'.out HO'.out).mono ?_); rintro e w7 ⟨r, k3, rfl, hr1, hr2, hr3, _, _, hr5b, hr6, hb8⟩; have HB8 := Lib.hid (HB7.out.trans (hb8.mono HB7.out.size)); have HD8 := Lib.hid (HD7.out.trans (hb8.mono HD7.out.size)); have HRR := Lib.hid (And.intro hr1 (And.intro hr2 (And.intro hr3 (And.intro (hr5b HO2.out) hr6)))); clear hr1 hr2 hr3 hr5b hr6 hb8))
      go_wp2_with fail
      go_ret
      have hlen := HNL.out
      have h3 := HRR.out.2.2.1
      have h4 := HRR.out.2.2.2.1
      rw [hlen] at h3 h4
      refine ⟨r, k3, rfl, HRR.out.1, ?_, h3, h4, HRR.out.2.2.2.2, HW5.out.trans (HD8.out.mono HW5.out.size)⟩
      have hc := HP'.out
      rw [HCF.out] at hc
      have hlast := CutX.last hc
      have h := HCUT.out c f HCF.out
      rw [HRR.out.2.1, List.map_append, List.map_append, List.map_take, List.map_drop, List.map_cons, List.map_nil, hlast]
      exact h
theorem without_is : ∀ (h : Nat) (p : ByteArray) (t : NT h) (b : Nat) (w : World), IsN w h t b → NT.ok 1 2 h t → RisingX (NT.flat h t) → (∃ x ∈ NT.flat h t, x.f.path = p) →
    Calls Try.prog 31 #[.pointer (some ⟨b, 0, none⟩), .string p] w (WithoutIs h t p w)
  | 0 => fun p t b w => without_step 0 (fun h' e => by cases e) p t b w
  | h + 1 => fun p t b w => without_step (h + 1) (fun h' e => by cases e; exact without_is h) p t b w
end Go.Proofs.Ytcjbhjbjkfgphaa

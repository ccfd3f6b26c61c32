/-
  The program's trees in memory; its top, Len and find. Condition: no text is longer than 2^48 bytes.
-/
import Derived.Test.YtcjbhjbjkfgphaaNlast
import Derived.Test.YtcjbhjbjkfgphaaRbeh
namespace Go.Proofs.Ytcjbhjbjkfgphaa
open Go.RowKit Go.Deep

/-- What hangs on a root. -/
def RootIs (w : World) (r : Option Addr) (xs : List FX) : Prop := (r = none ∧ xs = []) ∨ ∃ (h : Nat) (t : NT h) (b : Nat), r = some ⟨b, 0, none⟩ ∧ IsN w h t b ∧ NT.ok 1 2 h t ∧ NT.flat h t = xs
structure Good (w : World) (xs : List FX) : Prop where
  rise : RisingX xs
  right : ∀ x ∈ xs, RightP x.f.path
  few : xs.length ≤ 1024
  ropes : ∀ x ∈ xs, ∃ l, RopeIs w x.q l ∧ x.f.text = txt l
  vers : ∀ x ∈ xs, (Lit.int .i64 x.f.ver).wf = true
/-- A tree in memory. -/
def TreeIs (w : World) (p : Option Addr) (fs : List FileM) : Prop := ∃ (xs : List FX) (r : Option Addr), fs = xs.map (·.f) ∧ Good w xs ∧ RootIs w r xs ∧ ((p = none ∧ r = none) ∨ ∃ b, p = some ⟨b, 0, none⟩ ∧ w.heap[b]? = some (.cells #[.pointer r, .int .i64 (xs.length : Int)] 81))
theorem RootIs.below {w w' : World} {r : Option Addr} {xs : List FX} (h : RootIs w r xs) (hb : Below w.heap.size w w') : RootIs w' r xs := by
  rcases h with h | ⟨n, t, b, h1, h2, h3, h4⟩
  · exact .inl h
  · exact .inr ⟨n, t, b, h1, h2.below hb, h3, h4⟩
theorem Good.below {w w' : World} {xs : List FX} (h : Good w xs) (hb : Below w.heap.size w w') : Good w' xs :=
  ⟨h.rise, h.right, h.few, fun x hx => by
    obtain ⟨l, h1, h2⟩ := h.ropes x hx
    exact ⟨l, h1.below hb, h2⟩, h.vers⟩
theorem TreeIs.below {w w' : World} {p : Option Addr} {fs : List FileM} (h : TreeIs w p fs) (hb : Below w.heap.size w w') : TreeIs w' p fs := by
  obtain ⟨xs, r, h1, h2, h3, h4⟩ := h
  refine ⟨xs, r, h1, h2.below hb, h3.below hb, ?_⟩
  rcases h4 with h4 | ⟨b, e, h5⟩
  · exact .inl h4
  · exact .inr ⟨b, e, (hb.block b (Array.getElem?_eq_some_iff.1 h5).1).trans h5⟩
theorem Good.nil (w : World) : Good w [] where
  rise := trivial
  right := by simp
  few := by simp
  ropes := by simp
  vers := by simp
theorem TreeIs.nil (w : World) : TreeIs w none [] := ⟨[], none, rfl, Good.nil w, .inl ⟨rfl, rfl⟩, .inl ⟨rfl, rfl⟩⟩

/-- Its root, behind top. -/
def TopIs (w : World) (p : Option Addr) (r : Option Addr) (n : Nat) : Prop := (p = none ∧ r = none ∧ n = 0) ∨ ∃ b, p = some ⟨b, 0, none⟩ ∧ w.heap[b]? = some (.cells #[.pointer r, .int .i64 (n : Int)] 81)
theorem TreeIs.top {w : World} {p : Option Addr} {fs : List FileM} (h : TreeIs w p fs) : ∃ xs r, fs = xs.map (·.f) ∧ Good w xs ∧ RootIs w r xs ∧ TopIs w p r xs.length := by
  obtain ⟨xs, r, h1, h2, h3, h4⟩ := h
  refine ⟨xs, r, h1, h2, h3, ?_⟩
  rcases h4 with ⟨h4, h5⟩ | h4
  · subst h5
    rcases h3 with ⟨_, h3⟩ | ⟨n, t, b, h6, _⟩
    · exact .inl ⟨h4, rfl, by rw [h3]; rfl⟩
    · cases h6
  · exact .inr h4
theorem TopIs.below {w w' : World} {p r : Option Addr} {n : Nat} (h : TopIs w p r n) (hb : Below w.heap.size w w') : TopIs w' p r n := by
  rcases h with h | ⟨b, e, h5⟩
  · exact .inl h
  · exact .inr ⟨b, e, (hb.block b (Array.getElem?_eq_some_iff.1 h5).1).trans h5⟩

set_option maxRecDepth 100000 in
set_option maxHeartbeats 1000000 in
theorem top_is {w : World} {p r : Option Addr} {n : Nat} (h : TopIs w p r n) : Calls Try.prog 28 #[.pointer p] w fun e w' => e = .returned (.pointer r) ∧ w = w' := by
  rcases h with ⟨rfl, rfl, _⟩ | ⟨b, rfl, hb⟩
  · go_enter Try.func28, Try.ntmps28
    go_wp2_with fail
    go_ret
    exact ⟨rfl, rfl⟩
  · have k0 : w.cell? ⟨b, 0, none⟩ = some (.pointer r) := obj_cell hb 0
    clear hb
    go_enter Try.func28, Try.ntmps28
    go_wp2_with fail
    go_ret
    exact ⟨rfl, rfl⟩
set_option maxRecDepth 100000 in
set_option maxHeartbeats 1000000 in
theorem len_top {w : World} {p r : Option Addr} {n : Nat} (h : TopIs w p r n) : Calls Try.prog 20 #[.pointer p] w fun e w' => e = .returned (.int .i64 (n : Int)) ∧ w = w' := by
  rcases h with ⟨rfl, _, rfl⟩ | ⟨b, rfl, hb⟩
  · go_enter Try.func20, Try.ntmps20
    go_wp2_with fail
    go_ret
    exact ⟨rfl, rfl⟩
  · have k0 : w.cell? ⟨b, 1, none⟩ = some (.int .i64 (n : Int)) := obj_cell hb 1
    clear hb
    go_enter Try.func20, Try.ntmps20
    go_wp2_with fail
    go_ret
    exact ⟨rfl, rfl⟩

def FoundIs (xs : List FX) (s : ByteArray) (w : World) (e : Ending) (w' : World) : Prop :=
  (∃ x ∈ xs, x.f.path = s ∧ e = .returned (.tuple #[.agg #[.string x.f.path, .int .i64 x.f.ver, .pointer x.q], .bool true]) ∧ Below w.heap.size w w') ∨
  ((∀ x ∈ xs, x.f.path ≠ s) ∧ e = .returned (.tuple #[.agg #[.string ⟨#[]⟩, .int .i64 0, .pointer none], .bool false]) ∧ Below w.heap.size w w')
def FindRel (w : World) (xs : List FX) (s : ByteArray) (nv : Value) (wr : World) : Prop := ((nv = .pointer none ∧ ∀ x ∈ xs, x.f.path ≠ s) ∨ ∃ (h : Nat) (t : NT h) (b : Nat), nv = .pointer (some ⟨b, 0, none⟩) ∧ IsN w h t b ∧ NT.ok 1 2 h t ∧ RisingX (NT.flat h t) ∧ (∀ x ∈ NT.flat h t, x ∈ xs) ∧ ∀ x ∈ xs, x.f.path = s → x ∈ NT.flat h t) ∧
  Below (w.alloc (.cells #[.string ⟨#[]⟩, .int .i64 0, .pointer none] 68)).heap.size (w.alloc (.cells #[.string ⟨#[]⟩, .int .i64 0, .pointer none] 68)) wr

theorem kid_in {fs : List FX} {kk : List (List FX)} {i : Nat} {k : List FX} (hl : kk.length = fs.length + 1) (hk : kk[i]? = some k) {x : FX} (hx : x ∈ k) : x ∈ weave fs kk := by
  rw [(weave_at hl hk).1]
  exact List.mem_append_right _ (List.mem_append_left _ hx)
theorem file_in : ∀ {h : Nat} {t : NT h} {lo hi i : Nat} {x : FX}, NT.ok lo hi h t → (NT.files h t)[i]? = some x → x ∈ NT.flat h t
  | 0, _, _, _, _, _, _, hx => List.mem_of_getElem? hx
  | h + 1, (fs, ks), _, _, i, x, ho, hx => by
    have hx : fs[i]? = some x := hx
    obtain ⟨A, k, B, _, h2, _⟩ := weave_set (kk := ks.map (NT.flat h)) (by rw [List.length_map]; exact ho.2.2.1) hx
    show x ∈ weave fs (ks.map (NT.flat h))
    rw [h2]
    simp
set_option maxRecDepth 100000 in
set_option maxHeartbeats 4000000 in
theorem find_is {w : World} {p r : Option Addr} {n : Nat} {xs : List FX} (s : ByteArray) (ht : TopIs w p r n) (hr : RootIs w r xs) (hx : RisingX xs) : Calls Try.prog 27 #[.pointer p, .string s] w (FoundIs xs s w) := by
  obtain ⟨μ, hμ⟩ := hgt_ex
  have HMU := Lib.hid hμ
  have HTOP := Lib.hid (top_is (ht.below (bl1 w (.cells #[.string ⟨#[]⟩, .int .i64 0, .pointer none] 68))))
  have HROOT := Lib.hid hr
  have HX := Lib.hid hx
  clear hμ ht hr hx
  go_enter Try.func27, Try.ntmps27
  go_wp2_with fail
  go_at_call 28
  (with_reducible refine HTOP.out.mono ?_)
  rintro e w0 ⟨rfl, rfl⟩
  go_wp2_with fail
  go_loopw [6] (fun nv wr => FindRel w xs s nv wr) (fun nv _ => match nv with | .pointer (some a) => μ w a.block + 1 | _ => 0)
  case atStart =>
    refine ⟨?_, Below.refl _ _⟩
    rcases HROOT.out with ⟨rfl, rfl⟩ | ⟨h, t, b, rfl, h1, h2, rfl⟩
    · exact .inl ⟨rfl, fun x hx => by cases hx⟩
    · exact .inr ⟨h, t, b, rfl, h1, h2, HX.out, fun x hx => hx, fun x hx _ => hx⟩
  case round =>
    obtain ⟨hcase, hb⟩ := hrel
    have hwb := bl1 w (.cells #[.string ⟨#[]⟩, .int .i64 0, .pointer none] 68)
    have HB := Lib.hid hb
    have HWR := Lib.hid (hwb.trans (hb.mono hwb.size))
    have hob : wr.heap[w.heap.size]? = some (.cells #[.string ⟨#[]⟩, .int .i64 0, .pointer none] 68) := (hb.block w.heap.size (by simp)).trans (heap_alloc_new w _)
    rcases hcase with ⟨rfl, hno⟩ | ⟨h, t, b, rfl, hn, hok, hri, hsub, hall⟩
    · have z0 := obj_cell hob 0
      have z1 := obj_cell hob 1
      have z2 := obj_cell hob 2
      have v0 := frozen_of_row wr w.heap.size 0 _ _ hob
      have v1 := frozen_of_row wr w.heap.size 1 _ _ hob
      have v2 := frozen_of_row wr w.heap.size 2 _ _ hob
      have HOB := Lib.hid hob
      have HNO := Lib.hid hno
      clear hob hno hb hwb
      go_wp2_with fail
      have hob3 := Go.Joins.block_setCell (i := 2) (Go.Joins.block_setCell (i := 1) (Go.Joins.block_setCell (i := 0) HOB.out (.string ⟨#[]⟩)) (.int .i64 0)) (.pointer none)
      have q0 := obj_cell hob3 0
      have q1 := obj_cell hob3 1
      have q2 := obj_cell hob3 2
      simp at q0 q1 q2
      have hbz := ((HWR.out.setCell (p := ⟨w.heap.size, 0, none⟩) (Nat.le_refl _) (.string ⟨#[]⟩)).setCell (p := ⟨w.heap.size, 1, none⟩) (Nat.le_refl _) (.int .i64 0)).setCell (p := ⟨w.heap.size, 2, none⟩) (Nat.le_refl _) (.pointer none)
      refine bodyPost_ret (v := .tuple #[.agg #[.string ⟨#[]⟩, .int .i64 0, .pointer none], .bool false]) (by simp [results, Try.results27, go_sem, q0, q1, q2]) rfl (.inr ⟨HNO.out, rfl, hbz⟩)
    · obtain ⟨ad, hnode, hka, hk0⟩ := IsN.node hn hok
      have hfr := NT.rising hok hri
      have hfl := hok.len
      have HM := Lib.hid (HMU.out w b h ⟨t, hn, hok⟩)
      have HP := Lib.hid (place_is s (hnode.below HWR.out) hfr (by omega))
      have HN := Lib.hid hn
      have HNODE := Lib.hid hnode
      have HOK := Lib.hid hok
      have HRI := Lib.hid hri
      have HSUB := Lib.hid (And.intro hsub hall)
      have HKA := Lib.hid (And.intro hka hk0)
      have HOB := Lib.hid hob
      clear hnode hka hk0 hfr hfl hn hok hri hsub hall hob hb hwb
      go_wp2_with fail
      go_at_call 40
      (with_reducible refine HP.out.mono ?_)
      rintro e w1 ⟨i, th, rfl, hpl, hb1⟩
      have HB1 := Lib.hid (HB.out.trans (hb1.mono HB.out.size))
      have HW1 := Lib.hid (HWR.out.trans (hb1.mono HWR.out.size))
      have hob := (hb1.block w.heap.size (Array.getElem?_eq_some_iff.1 HOB.out).1).trans HOB.out
      cases th with
      | true =>
        obtain ⟨x, hxi, hxp⟩ := hpl.is rfl
        obtain ⟨A1, c1, hB0, _, _, hfile⟩ := HNODE.out.file
        obtain ⟨g, o, eA, hxc⟩ := hfile i x hxi
        subst eA
        obtain ⟨n, en⟩ : ∃ n, n = (NT.files h t).length := ⟨_, rfl⟩
        rw [← en] at hB0
        have hil : i < n := by rw [en]; exact (List.getElem?_eq_some_iff.1 hxi).1
        have y0 := hB0 w1 HW1.out
        obtain ⟨y1, y2, y3⟩ := hxc w1 HW1.out
        have z0 := obj_cell hob 0
        have z1 := obj_cell hob 1
        have z2 := obj_cell hob 2
        have v0 := frozen_of_row w1 w.heap.size 0 _ _ hob
        have v1 := frozen_of_row w1 w.heap.size 1 _ _ hob
        have v2 := frozen_of_row w1 w.heap.size 2 _ _ hob
        have hi0 : (0 : Int) ≤ (i : Int) := by omega
        have hiI : (i : Int) < (n : Int) := by omega
        have HOB1 := Lib.hid hob
        have HXI := Lib.hid (And.intro (HSUB.out.1 x (file_in HOK.out hxi)) hxp)
        clear hpl hb1 hob hxi hxp hB0 hfile hxc en hil
        go_wp2_with fail
        have hob3 := Go.Joins.block_setCell (i := 2) (Go.Joins.block_setCell (i := 1) (Go.Joins.block_setCell (i := 0) HOB1.out (.string x.f.path)) (.int .i64 x.f.ver)) (.pointer x.q)
        have q0 := obj_cell hob3 0
        have q1 := obj_cell hob3 1
        have q2 := obj_cell hob3 2
        simp at q0 q1 q2
        have hbz := ((HW1.out.setCell (p := ⟨w.heap.size, 0, none⟩) (Nat.le_refl _) (.string x.f.path)).setCell (p := ⟨w.heap.size, 1, none⟩) (Nat.le_refl _) (.int .i64 x.f.ver)).setCell (p := ⟨w.heap.size, 2, none⟩) (Nat.le_refl _) (.pointer x.q)
        refine bodyPost_ret (v := .tuple #[.agg #[.string x.f.path, .int .i64 x.f.ver, .pointer x.q], .bool true]) (by simp [results, Try.results27, go_sem, q0, q1, q2]) rfl (.inl ⟨x, HXI.out.1, HXI.out.2, rfl, hbz⟩)
      | false =>
        cases h with
        | zero =>
          have HKID := Lib.hid (kid_none (w := w1) (b := b) (fs := t) (NodeAt.below (show NodeAt w b t [] from HN.out) HW1.out) (i : Int))
          have HNO := Lib.hid (show ∀ x ∈ xs, x.f.path ≠ s from fun x hx e => not_there hpl x (HSUB.out.2 x hx e) e)
          clear hpl hb1 hob
          go_wp2_with fail
          go_at_call 32
          (with_reducible refine HKID.out.mono ?_)
          rintro e w2 ⟨rfl, rfl⟩
          go_wp2_with fail
          go_roundw
          case rel => exact ⟨.inl ⟨rfl, HNO.out⟩, HB1.out⟩
          case measure =>
            show 0 < μ w b + 1
            exact Nat.succ_pos _
        | succ h =>
          obtain ⟨fs, ks⟩ := t
          obtain ⟨ad2, hn2, hkl, hkids⟩ := HN.out
          obtain ⟨o1, o2, o3, o4⟩ := HOK.out
          have hile : i ≤ fs.length := hpl.le
          have hik : i < ks.length := by omega
          obtain ⟨T0, hT0⟩ : ∃ t, ks[i]? = some t := ⟨ks[i]'hik, List.getElem?_eq_getElem _⟩
          obtain ⟨a0, ha0⟩ : ∃ a, ad2[i]? = some a := ⟨ad2[i]'(by rw [hkl]; exact hik), List.getElem?_eq_getElem _⟩
          have hk0 := hkids i T0 a0 hT0 ha0
          have ho0 := o4 T0 (List.mem_of_getElem? hT0)
          have hll : (ks.map (NT.flat h)).length = fs.length + 1 := by rw [List.length_map]; exact o3
          have hf0 : (ks.map (NT.flat h))[i]? = some (NT.flat h T0) := by rw [List.getElem?_map, hT0]; rfl
          have hr0 : RisingX (NT.flat h T0) := rising_kid hll hf0 HRI.out
          have HKID := Lib.hid (kid_some (hn2.below HW1.out) i a0 ha0 (by omega))
          have HREL := Lib.hid (show FindRel w xs s (.pointer (some ⟨a0, 0, none⟩)) w1 from ⟨.inr ⟨h, T0, a0, rfl, hk0, ho0, hr0, fun x hx => HSUB.out.1 x (kid_in hll hf0 hx), fun x hx e => in_kid hll hf0 HRI.out hpl (HSUB.out.2 x hx e) e⟩, HB1.out⟩)
          have HM2 := Lib.hid (HMU.out w a0 h ⟨T0, hk0, ho0⟩)
          clear hpl hb1 hob hn2 hkl hkids o1 o2 o3 o4 hile hik hT0 ha0 hk0 ho0 hll hf0 hr0
          go_wp2_with fail
          go_at_call 32
          (with_reducible refine HKID.out.mono ?_)
          rintro e w2 ⟨rfl, rfl⟩
          go_wp2_with fail
          go_roundw
          case rel => exact HREL.out
          case measure =>
            show μ w a0 + 1 < μ w b + 1
            rw [HM.out, HM2.out]
            exact Nat.lt_succ_self _
end Go.Proofs.Ytcjbhjbjkfgphaa

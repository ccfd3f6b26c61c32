/-
  A node's kid, a node of a part of another's files, its two halves, two nodes joined. Condition: no node has more than 64 files.
-/
import Derived.Test.YtcjbhjbjkfgphaaNsearch
namespace Go.Proofs.Ytcjbhjbjkfgphaa
open Go.RowKit Go.Deep

/-- A node that is made now. -/
def MadeN (fs : List FX) (ad : List Nat) (w : World) (e : Ending) (w' : World) : Prop := ∃ b, e = .returned (.pointer (some ⟨b, 0, none⟩)) ∧ NodeAt w' b fs ad ∧ Below w.heap.size w w'
/-- A node that lies off a block, its rows too. -/
def NodeOff (w : World) (b : Nat) (fs : List FX) (ad : List Nat) (k : Nat) : Prop := ∃ A1 c1 A2 c2, w.heap[b]? = some (.cells #[.slice A1 fs.length c1, .slice A2 ad.length c2] 77) ∧ fs.length ≤ c1 ∧ ad.length ≤ c2 ∧ RawAt w A1 (xsV fs) ∧ RawAt w A2 (ksV ad) ∧
  b ≠ k ∧ (∀ g o, A1 = some ⟨g, o, none⟩ → g ≠ k) ∧ (∀ g o, A2 = some ⟨g, o, none⟩ → g ≠ k)
theorem NodeOff.at {w : World} {b : Nat} {fs : List FX} {ad : List Nat} {k : Nat} (h : NodeOff w b fs ad k) : NodeAt w b fs ad := by
  obtain ⟨A1, c1, A2, c2, h1, h2, h3, h4, h5, _⟩ := h
  exact ⟨A1, c1, A2, c2, h1, h2, h3, h4, h5⟩
theorem NodeOff.below {w w' : World} {b : Nat} {fs : List FX} {ad : List Nat} {k : Nat} (h : NodeOff w b fs ad k) (hb : Below w.heap.size w w') : NodeOff w' b fs ad k := by
  have hl := h.at.lt
  obtain ⟨A1, c1, A2, c2, h1, h2, h3, h4, h5, h6⟩ := h
  exact ⟨A1, c1, A2, c2, (hb.block b hl).trans h1, h2, h3, h4.below hb, h5.below hb, h6⟩
def MadeP (fs : List FX) (ad : List Nat) (w : World) (e : Ending) (w' : World) : Prop := ∃ b, e = .returned (.pointer (some ⟨b, 0, none⟩)) ∧ (∀ k, k < w.heap.size → NodeOff w' b fs ad k) ∧ Below w.heap.size w w'
theorem own_raw {w : World} {base : Nat} {e : TypeId} {sz : Nat} {v : Value} {n : Nat} {vs : List Value} (h : w.ownsRow base e sz v n vs) : ∃ A c, v = .slice A n c ∧ n ≤ c ∧ RawAt w A vs := by
  obtain ⟨A, c, h1, h2, h3, _⟩ := own_form h
  exact ⟨A, c, h1, h2, h3⟩
theorem own_far {w : World} {base : Nat} {e : TypeId} {sz n c : Nat} {A : Option Addr} {vs : List Value} (h : w.ownsRow base e sz (.slice A n c) n vs) : ∀ g o, A = some ⟨g, o, none⟩ → base ≤ g := fun g o e => by
  subst e
  exact (World.ownsRow.lt h g rfl).1
theorem RawAt.lt {w : World} {A : Option Addr} {vs : List Value} (h : RawAt w A vs) (hne : vs ≠ []) : ∀ g o, A = some ⟨g, o, none⟩ → g < w.heap.size := fun g o e => by
  rcases h with h | ⟨g', o', e', hr⟩
  · exact absurd h hne
  · rw [e] at e'
    cases e'
    cases vs with
    | nil => exact absurd rfl hne
    | cons v r => exact World.block_lt_of_cell? _ _ (hr 0 v rfl)
theorem RawAt.setOther {w : World} {A : Option Addr} {vs : List Value} {k i : Nat} {v : Value} (h : RawAt w A vs) (hk : vs ≠ [] → ∀ g o, A = some ⟨g, o, none⟩ → g ≠ k) : RawAt (w.setCell ⟨k, i, none⟩ v) A vs := by
  by_cases hne : vs = []
  · exact .inl hne
  · rcases h with h | ⟨g, o, e, hr⟩
    · exact .inl h
    · exact .inr ⟨g, o, e, fun j u hu => (World.cell?_setCell_far w ⟨k, i, none⟩ ⟨g, o + j, none⟩ v (fun h => hk hne g o e h.symm)).trans (hr j u hu)⟩
theorem NodeOff.set {w : World} {b : Nat} {fs : List FX} {ad : List Nat} {k i : Nat} {v : Value} (h : NodeOff w b fs ad k) : NodeOff (w.setCell ⟨k, i, none⟩ v) b fs ad k := by
  obtain ⟨A1, c1, A2, c2, h1, h2, h3, h4, h5, h6, h7, h8⟩ := h
  exact ⟨A1, c1, A2, c2, by rw [Below.heap_setCell w ⟨k, i, none⟩ v b h6]; exact h1, h2, h3, h4.setOther (fun _ => h7), h5.setOther (fun _ => h8), h6, h7, h8⟩
theorem ksV_take (ks : List Nat) (i : Nat) : (ksV ks).take (i * 1) = ksV (ks.take i) := by simp [ksV]
theorem ksV_drop (ks : List Nat) (i : Nat) : (ksV ks).drop (i * 1) = ksV (ks.drop i) := by simp [ksV]

set_option maxRecDepth 100000 in
set_option maxHeartbeats 1000000 in
theorem kid_none {w : World} {b : Nat} {fs : List FX} (h : NodeAt w b fs []) (i : Int) : Calls Try.prog 32 #[.pointer (some ⟨b, 0, none⟩), .int .i64 i] w fun e w' => e = .returned (.pointer none) ∧ w = w' := by
  obtain ⟨A1, c1, A2, c2, hb, _, _, _, _⟩ := h
  have k1 : w.cell? ⟨b, 1, none⟩ = some (.slice A2 0 c2) := obj_cell hb 1
  clear hb
  go_enter Try.func32, Try.ntmps32
  go_wp2_with fail
  go_ret
  exact ⟨rfl, rfl⟩
set_option maxRecDepth 100000 in
set_option maxHeartbeats 1000000 in
theorem kid_some {w : World} {b : Nat} {fs : List FX} {ad : List Nat} (h : NodeAt w b fs ad) (i k : Nat) (hk : ad[i]? = some k) (_hn : ad.length ≤ 65) : Calls Try.prog 32 #[.pointer (some ⟨b, 0, none⟩), .int .i64 (i : Int)] w fun e w' => e = .returned (.pointer (some ⟨k, 0, none⟩)) ∧ w = w' := by
  obtain ⟨A1, c1, A2, c2, hb, _, _, _, hr⟩ := h
  obtain ⟨n, en⟩ : ∃ n, n = ad.length := ⟨_, rfl⟩
  have hin : i < n := by rw [en]; exact (List.getElem?_eq_some_iff.1 hk).1
  rw [← en] at hb
  obtain ⟨g, o, rfl, k2⟩ := hr.cell (i := i) (v := ptrV k) (by simp [ksV, hk])
  have k2 : w.cell? ⟨g, o + i, none⟩ = some (.pointer (some ⟨k, 0, none⟩)) := k2
  have k1 : w.cell? ⟨b, 1, none⟩ = some (.slice (some ⟨g, o, none⟩) n c2) := obj_cell hb 1
  have g1 : ((n : Int) == 0) = false := by simp; omega
  have g1n : (n == 0) = false := by simp; omega
  have hi0 : (0 : Int) ≤ (i : Int) := by omega
  have hiI : (i : Int) < (n : Int) := by omega
  clear hb hr hk en
  go_enter Try.func32, Try.ntmps32
  go_wp2_with fail
  go_ret
  exact ⟨rfl, rfl⟩

set_option maxRecDepth 100000 in
set_option maxHeartbeats 2000000 in
theorem part_is {w : World} {b : Nat} {fs : List FX} {ad : List Nat} (h : NodeAt w b fs ad) (i j : Nat) (hij : i ≤ j) (hj : j ≤ fs.length) (hn : fs.length ≤ 64) (hk : ad = [] ∨ ad.length = fs.length + 1) :
    Calls Try.prog 43 #[.pointer (some ⟨b, 0, none⟩), .int .i64 (i : Int), .int .i64 (j : Int)] w (MadeP ((fs.take j).drop i) ((ad.take (j + 1)).drop i) w) := by
  have HN := Lib.hid h
  obtain ⟨A1, c1, A2, c2, hb, hc1, hc2, h1, h2⟩ := h
  obtain ⟨n, en⟩ : ∃ n, n = fs.length := ⟨_, rfl⟩
  obtain ⟨m, em⟩ : ∃ m, m = ad.length := ⟨_, rfl⟩
  rw [← en, ← em] at hb
  rw [← en] at hj hn hc1
  rw [← em] at hc2
  have hbl : b < w.heap.size := (Array.getElem?_eq_some_iff.1 hb).1
  have k0 : w.cell? ⟨b, 0, none⟩ = some (.slice A1 n c1) := obj_cell hb 0
  have HK1 := Lib.hid fun (W : World) (hW : Below w.heap.size w W) => show W.cell? ⟨b, 1, none⟩ = some (.slice A2 m c2) from (hW.cell (p := ⟨b, 1, none⟩) hbl).trans (obj_cell hb 1)
  obtain ⟨D, eD, hD, lD, hDc⟩ := sliced_part (sz := 3) h1 (Nat.le_trans hij hj) hc1 (by rw [length_xsV, en]) j hj hij
  rw [xsV_take, xsV_drop] at hD lD
  have s1 : ∀ W, (Instr.slice 74 (.slice A1 n c1) (some (.int .i64 (i : Int))) (some (.int .i64 (j : Int))) none).run Try.prog W = .ok (.slice D (j - i) (c1 - i)) W := fun W => by
    rw [run_slice_lh (P := Try.prog) (w := W) 74 A1 n c1 Try.underlying74 .i64 .i64 (i : Int) (j : Int) (by omega) (by omega) (by omega), elem_file.size, Result.andThen_ok, Int.toNat_natCast, Int.toNat_natCast, eD]
  have HC1 := Lib.hid (clone_file (c := c1 - i) (by omega) hD lD oneCell_xsV)
  have hlen1 : ((fs.take j).drop i).length = j - i := by rw [List.length_drop, List.length_take]; omega
  have HLEN1 := Lib.hid hlen1
  rcases hk with hk | hk
  · subst hk
    have hm0 : m = 0 := em
    subst hm0
    have HNIL := Lib.hid (show (([] : List Nat).take (j + 1)).drop i = [] by simp)
    clear hb hc1 hc2 h1 h2 hD lD eD hDc em hbl hij hj hn en hlen1
    go_enter Try.func43, Try.ntmps43
    go_wp2_with fail
    go_at_call 60
    (with_reducible refine HC1.out.mono ?_)
    rintro e w1 ⟨v, rfl, hv, hb1⟩
    obtain ⟨X, cx, rfl, hcx, hX⟩ := own_raw hv
    have k1 := HK1.out _ hb1
    have k1' := HK1.out _ (hb1.alloc hb1.size (.cells #[.slice X (j - i) cx, .slice none 0 0] 77))
    have HB1 := Lib.hid hb1
    have HX := Lib.hid (And.intro hcx hX)
    have HFX := Lib.hid (own_far hv)
    clear hv hb1 hcx hX
    go_wp2_with fail
    go_ret
    have hb2 := HB1.out.alloc HB1.out.size (.cells #[.slice X (j - i) cx, .slice none 0 0] 77)
    refine ⟨_, rfl, fun k hk => ?_, hb2⟩
    rw [HNIL.out]
    refine ⟨X, cx, none, 0, ?_, by rw [HLEN1.out]; exact HX.out.1, Nat.le_refl _, HX.out.2.below ((Below.refl w1.heap.size w1).alloc (Nat.le_refl _) _), RawAt.nil _ _, ?_, ?_, fun g o e => by cases e⟩
    rotate_left
    · have := HB1.out.size
      omega
    · intro g o e
      have := HFX.out g o e
      omega
    rw [HLEN1.out]
    exact heap_alloc_new w1 _
  · have hmn : m = n + 1 := by rw [em, en]; exact hk
    obtain ⟨j1, ej1⟩ : ∃ j1, j1 = j + 1 := ⟨_, rfl⟩
    rw [← ej1]
    obtain ⟨E, eE, hE, lE, hEc⟩ := sliced_part (sz := 1) h2 (l := i) (n := m) (c := c2) (by omega) hc2 (by rw [length_ksV, em]) j1 (by omega) (by omega)
    rw [ksV_take, ksV_drop] at hE lE
    have s2 : ∀ W, (Instr.slice 75 (.slice A2 m c2) (some (.int .i64 (i : Int))) (some (.int .i64 (j1 : Int))) none).run Try.prog W = .ok (.slice E (j1 - i) (c2 - i)) W := fun W => by
      rw [run_slice_lh (P := Try.prog) (w := W) 75 A2 m c2 Try.underlying75 .i64 .i64 (i : Int) (j1 : Int) (by omega) (by omega) (by omega), elem_node.size, Result.andThen_ok, Int.toNat_natCast, Int.toNat_natCast, eE]
    have HC2 := Lib.hid fun (W : World) (hW : Below w.heap.size w W) => clone_node (w := W) (c := c2 - i) (by omega) (hE.below hW) lE oneCell_ksV
    have HLEN2 := Lib.hid (show ((ad.take j1).drop i).length = j1 - i by rw [List.length_drop, List.length_take]; omega)
    have q1 : IntKind.i64.wrap ((j : Int) + 1) = (j1 : Int) := by rw [show (j : Int) + 1 = (j1 : Int) by omega]; exact IntWalk.i64_in _ (by omega)
    have g1 : decide (0 < (m : Int)) = true := by simp; omega
    have g1n : decide (0 < m) = true := by simp; omega
    clear ej1 hb hc1 hc2 h1 h2 hD lD eD hDc em hbl hij hj hn en hlen1 hE lE eE hEc hmn hk
    go_enter Try.func43, Try.ntmps43
    go_wp2_with fail
    go_at_call 60
    (with_reducible refine HC1.out.mono ?_)
    rintro e w1 ⟨v, rfl, hv, hb1⟩
    obtain ⟨X, cx, rfl, hcx, hX⟩ := own_raw hv
    have HFX := Lib.hid (own_far hv)
    have HXL := Lib.hid (show xsV ((fs.take j).drop i) ≠ [] → ∀ g o, X = some ⟨g, o, none⟩ → g ≠ w1.heap.size from fun hne g o e => Nat.ne_of_lt (hX.lt hne g o e))
    obtain ⟨O, eO⟩ : ∃ O, O = Obj.cells #[.slice X (j - i) cx, .slice none 0 0] 77 := ⟨_, rfl⟩
    have hb2 := hb1.alloc hb1.size O
    have k1 := HK1.out _ hb1
    have k1' := HK1.out _ hb2
    have HC3 := HC2.out _ hb2
    rw [eO] at k1' HC3
    have HC3 := Lib.hid HC3
    have HB2 := Lib.hid hb2
    have HX := Lib.hid (And.intro hcx (hX.below ((Below.refl w1.heap.size w1).alloc (Nat.le_refl _) O)))
    have HNEW := Lib.hid (heap_alloc_new w1 O)
    have HSZ := Lib.hid (show (w1.alloc O).heap.size = w1.heap.size + 1 by simp)
    have HB1 := Lib.hid hb1
    rw [eO] at HB2 HX HNEW HSZ
    clear hv hb1 hcx hX hb2 eO
    go_wp2_with fail
    go_at_call 61
    (with_reducible refine HC3.out.mono ?_)
    rintro e w2 ⟨v, rfl, hv, hb3⟩
    obtain ⟨Y, cy, rfl, hcy, hY⟩ := own_raw hv
    have HFY := Lib.hid (show ∀ g o, Y = some ⟨g, o, none⟩ → w1.heap.size + 1 ≤ g from fun g o e => by
      have := own_far hv g o e
      rw [HSZ.out] at this
      exact this)
    have HYL := Lib.hid (show ∀ g o, Y = some ⟨g, o, none⟩ → g ≠ w1.heap.size from fun g o e => by
      have := own_far hv g o e
      rw [HSZ.out] at this
      omega)
    have HX2 := Lib.hid (HX.out.2.below (hb3.mono (Nat.le_refl _)))
    have hob : w2.heap[w1.heap.size]? = some (.cells #[.slice X (j - i) cx, .slice none 0 0] 77) := (hb3.block w1.heap.size (by rw [HSZ.out]; omega)).trans HNEW.out
    have c1' : w2.cell? ⟨w1.heap.size, 1, none⟩ = some (.slice none 0 0) := obj_cell hob 1
    have f1' : w2.frozen? ⟨w1.heap.size, 1, none⟩ = false := frozen_of_row w2 w1.heap.size 1 _ _ hob
    have HOB := Lib.hid hob
    have HB4 := Lib.hid (HB2.out.trans (hb3.mono HB2.out.size))
    have HB3 := Lib.hid hb3
    have HY := Lib.hid (And.intro hcy hY)
    clear hv hb3 hcy hY
    go_wp2_with fail
    go_ret
    have hb4 := HB4.out.setCell (p := ⟨w1.heap.size, 1, none⟩) HB1.out.size (.slice Y (j1 - i) cy)
    have hob2 := Go.Joins.block_setCell (i := 1) HOB.out (.slice Y (j1 - i) cy)
    refine ⟨_, rfl, fun k hk => ⟨X, cx, Y, cy, ?_, ?_, ?_, ?_, ?_, ?_, ?_, ?_⟩, hb4⟩
    · rw [HLEN1.out, HLEN2.out]
      exact hob2
    · rw [HLEN1.out]; exact HX.out.1
    · rw [HLEN2.out]; exact HY.out.1
    · exact HX2.out.setOther HXL.out
    · exact HY.out.2.setOther (fun _ => HYL.out)
    · have := HB1.out.size
      omega
    · intro g o e
      have := HFX.out g o e
      omega
    · intro g o e
      have := HFY.out g o e
      have := HB1.out.size
      omega
end Go.Proofs.Ytcjbhjbjkfgphaa

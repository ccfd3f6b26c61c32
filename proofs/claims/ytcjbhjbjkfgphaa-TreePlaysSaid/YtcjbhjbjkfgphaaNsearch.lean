/-
  The library's BinarySearchFunc over the program's comparison, and place. Condition: the node has at most 64 files, by rising paths.
-/
import Derived.Test.YtcjbhjbjkfgphaaNplace
namespace Go.Proofs.Ytcjbhjbjkfgphaa
open Go.RowKit Go.Deep

theorem search_lo {fs : List FX} {p : ByteArray} {h : Nat} {x : FX} (hr : RisingX fs) (hx : fs[h]? = some x) (hl : pless x.f.path p = true) : ∀ k y, k < h + 1 → fs[k]? = some y → pless y.f.path p = true := fun k y hk hy => by
  by_cases hkh : k = h
  · rw [hkh, hx] at hy
    cases hy
    exact hl
  · exact pless_trans (rising_lt hr hy hx (by omega)) hl
theorem search_hi {fs : List FX} {p : ByteArray} {h : Nat} {x : FX} (hr : RisingX fs) (hx : fs[h]? = some x) (hl : ¬ pless x.f.path p = true) : ∀ k y, h ≤ k → fs[k]? = some y → pless y.f.path p = false := fun k y hk hy => by
  by_cases hkh : k = h
  · rw [hkh, hx] at hy
    cases hy
    simpa using hl
  · have h1 := rising_lt hr hx hy (by omega)
    cases h2 : pless y.f.path p
    · rfl
    · exact absurd (pless_trans h1 h2) hl
theorem meas1 {i h j : Nat} (h1 : i ≤ h) (h2 : h < j) : j - (h + 1) < j - i := by omega
theorem meas2 {i h j : Nat} (h1 : i ≤ h) (h2 : h < j) : h - i < j - i := by omega
theorem less_is (x : FX) (p : ByteArray) (w : World) : Calls Try.prog 55 #[.agg #[.string x.f.path, .int .i64 x.f.ver, .pointer x.q], .string p] w (Answers (.int .i64 (cmpP x.f.path p)) w) := less_file x p w
set_option maxRecDepth 100000 in
set_option maxHeartbeats 2000000 in
theorem search_files {w : World} {A : Option Addr} {c : Nat} {fs : List FX} (p : ByteArray) (hxs : RawAt w A (xsV fs)) (hr : RisingX fs) (hn : fs.length ≤ 64) :
    Calls Try.prog 54 #[.slice A fs.length c, .string p, .func (.func 55) #[] #[]] w (PlaceAns fs p w) := by
  obtain ⟨n, en⟩ : ∃ n, n = fs.length := ⟨_, rfl⟩
  have HAT := Lib.hid hxs
  have HR := Lib.hid hr
  have EN := Lib.hid en
  rw [← en] at hn ⊢
  have HCELL := Lib.hid fun (W : World) (hb : Below w.heap.size w W) (k : Nat) (hk : k < n) => show ∃ x g o, fs[k]? = some x ∧ A = some ⟨g, o, none⟩ ∧ W.cell? ⟨g, o + k * 3, none⟩ = some (.string x.f.path) ∧ W.cell? ⟨g, o + k * 3 + 1, none⟩ = some (.int .i64 x.f.ver) ∧ W.cell? ⟨g, o + k * 3 + 2, none⟩ = some (.pointer x.q) from by
    obtain ⟨x, hx⟩ : ∃ x, fs[k]? = some x := ⟨fs[k]'(by omega), List.getElem?_eq_getElem _⟩
    obtain ⟨g, o, e, h0⟩ := (HAT.out.below hb).cell (xsV_at k x hx 0 _ rfl)
    obtain ⟨g1, o1, e1, h1⟩ := (HAT.out.below hb).cell (xsV_at k x hx 1 _ rfl)
    obtain ⟨g2, o2, e2, h2⟩ := (HAT.out.below hb).cell (xsV_at k x hx 2 _ rfl)
    subst e
    cases e1
    cases e2
    exact ⟨x, g, o, hx, rfl, by rw [Nat.add_zero] at h0; exact h0, by rw [Nat.add_assoc]; exact h1, by rw [Nat.add_assoc]; exact h2⟩
  clear hxs hr en
  go_enter Try.func54, Try.ntmps54
  go_wp2_with fail
  go_loopw [9, 10] (fun iv jv wr => ∃ i j : Nat, iv = .int .i64 (i : Int) ∧ jv = .int .i64 (j : Int) ∧ i ≤ j ∧ j ≤ n ∧ Hid ((∀ k x, k < i → fs[k]? = some x → pless x.f.path p = true) ∧ (∀ k x, j ≤ k → fs[k]? = some x → pless x.f.path p = false)) ∧ Below w.heap.size w wr) (fun iv jv _ => (intOf jv).toNat - (intOf iv).toNat)
  case atStart => exact ⟨0, n, rfl, rfl, Nat.zero_le _, Nat.le_refl _, Lib.hid ⟨fun k x h => by omega, fun k x h hx => by have := (List.getElem?_eq_some_iff.1 hx).1; have := EN.out; omega⟩, Below.refl _ _⟩
  case round =>
    obtain ⟨i, j, rfl, rfl, hij, hj, HI, hb⟩ := hrel
    by_cases hlt : i < j
    · obtain ⟨s, es⟩ : ∃ s, s = i + j := ⟨_, rfl⟩
      obtain ⟨h, eh⟩ : ∃ h, h = s / 2 := ⟨_, rfl⟩
      have hhj : h < j := by omega
      have hih : i ≤ h := by omega
      obtain ⟨x, g, o, hx, rfl, k0, k1, k2⟩ := HCELL.out wr hb h (by omega)
      have hg1 : decide ((i : Int) < (j : Int)) = true := by simp; omega
      have hg1n : decide (i < j) = true := by simp; omega
      have q1 : IntKind.i64.wrap ((i : Int) + (j : Int)) = (s : Int) := by rw [show (i : Int) + (j : Int) = (s : Int) by omega]; exact IntWalk.i64_in _ (by omega)
      have q2 : IntKind.u64.wrap (s : Int) = (s : Int) := by rw [IntKind.wrap_u64]; omega
      have q3 : IntKind.i64.wrap (h : Int) = (h : Int) := IntWalk.i64_in _ (by omega)
      have q4 : ((h + 1 : Nat) : Int) = (h : Int) + 1 := by omega
      have q5 : IntKind.i64.wrap ((h : Int) + 1) = ((h + 1 : Nat) : Int) := by rw [← q4]; exact IntWalk.i64_in _ (by omega)
      have hh0 : (0 : Int) ≤ (h : Int) := by omega
      have hhn : (h : Int) < (n : Int) := by omega
      have q6 : (s : Int) / 2 = (h : Int) := by omega
      have q7 : wrap64 (h : Int) = (h : Int) := IntWalk.wrap64_in _ (by omega)
      obtain ⟨v, ev⟩ : ∃ v, v = cmpP x.f.path p := ⟨_, rfl⟩
      have HC := Lib.hid fun W => less_is x p W
      rw [← ev] at HC
      have HX := Lib.hid hx
      have HB := Lib.hid hb
      have HJN := Lib.hid hj
      have HIH := Lib.hid (And.intro hih hhj)
      by_cases hl : pless x.f.path p = true
      · have hv : v < 0 := by rw [ev]; exact cmpP_lt.2 hl
        have g2 : decide (v < 0) = true := decide_eq_true hv
        have HI2 := Lib.hid (search_lo HR.out HX.out hl)
        clear hx hb es eh ev hl hv hih hhj
        go_wp2_with fail
        go_at_call 55
        (with_reducible refine (HC.out _).mono ?_)
        rintro e w1 ⟨rfl, hb1⟩
        have HB1 := Lib.hid (HB.out.trans (hb1.mono HB.out.size))
        clear hb1
        go_wp2_with fail
        go_roundw
        case rel => exact ⟨h + 1, j, by go_num, rfl, HIH.out.2, HJN.out, Lib.hid ⟨HI2.out, HI.out.2⟩, HB1.out⟩
        case measure =>
          clear q1 q2 q3 q5 q6 q7
          simp [intOf]
          exact meas1 HIH.out.1 HIH.out.2
      · have hv : ¬ v < 0 := by rw [ev]; exact fun h => hl (cmpP_lt.1 h)
        have g2 : decide (v < 0) = false := decide_eq_false hv
        have HI2 := Lib.hid (search_hi HR.out HX.out hl)
        clear hx hb es eh ev hl hv hih hhj
        go_wp2_with fail
        go_at_call 55
        (with_reducible refine (HC.out _).mono ?_)
        rintro e w1 ⟨rfl, hb1⟩
        have HB1 := Lib.hid (HB.out.trans (hb1.mono HB.out.size))
        clear hb1
        go_wp2_with fail
        go_roundw
        case rel => exact ⟨i, h, rfl, rfl, HIH.out.1, Nat.le_trans (Nat.le_of_lt HIH.out.2) HJN.out, Lib.hid ⟨HI.out.1, HI2.out⟩, HB1.out⟩
        case measure =>
          clear q1 q2 q3 q5 q6 q7
          simp [intOf]
          exact meas2 HIH.out.1 HIH.out.2
    · have hie : i = j := by omega
      subst hie
      have hg1 : decide ((i : Int) < (i : Int)) = false := by simp
      have HIN := Lib.hid (show i ≤ fs.length by rw [← EN.out]; exact hj)
      have HP := Lib.hid (PlaceIs.of HR.out HIN.out HI.out.1 HI.out.2)
      have HB := Lib.hid hb
      by_cases hin : i < n
      · obtain ⟨x, g, o, hx, rfl, k0, k1, k2⟩ := HCELL.out wr hb i hin
        have hg2 : decide ((i : Int) < (n : Int)) = true := by simp; omega
        have hh0 : (0 : Int) ≤ (i : Int) := by omega
        have hhn : (i : Int) < (n : Int) := by omega
        obtain ⟨v, ev⟩ : ∃ v, v = cmpP x.f.path p := ⟨_, rfl⟩
        have HC := Lib.hid fun W => less_is x p W
        rw [← ev] at HC
        have HEQ := Lib.hid (show (v == 0) = decide (∃ y, fs[i]? = some y ∧ y.f.path = p) from by
          rw [hx, ev]
          by_cases he : x.f.path = p
          · rw [decide_eq_true ⟨x, rfl, he⟩]
            simpa using cmpP_eq.2 he
          · rw [decide_eq_false (fun ⟨y, hy, hyp⟩ => he (by cases hy; exact hyp))]
            simpa using fun h => he (cmpP_eq.1 h))
        clear hx hb ev hj hlt
        go_wp2_with fail
        go_at_call 55
        (with_reducible refine (HC.out _).mono ?_)
        rintro e w1 ⟨rfl, hb1⟩
        have HB1 := Lib.hid (HB.out.trans (hb1.mono HB.out.size))
        clear hb1
        go_wp2_with fail
        go_ret2
        refine ⟨i, (v == 0), rfl, ?_, HB1.out⟩
        rw [HEQ.out]
        exact HP.out
      · have hg2 : decide ((i : Int) < (n : Int)) = false := by simp; omega
        have hg2n : decide (i < n) = false := decide_eq_false hin
        have hg2i : ¬ (i : Int) < (n : Int) := by omega
        have HEQ := Lib.hid (show decide (∃ y, fs[i]? = some y ∧ y.f.path = p) = false from decide_eq_false (fun ⟨y, hy, _⟩ => by have := (List.getElem?_eq_some_iff.1 hy).1; have := EN.out; omega))
        rw [HEQ.out] at HP
        clear hb hj hlt hin
        go_wp2_with fail
        go_ret2
        exact ⟨i, false, rfl, HP.out, HB.out⟩

set_option maxRecDepth 100000 in
set_option maxHeartbeats 1000000 in
theorem place_is {w : World} {b : Nat} {fs : List FX} {ad : List Nat} (p : ByteArray) (h : NodeAt w b fs ad) (hr : RisingX fs) (hn : fs.length ≤ 64) : Calls Try.prog 40 #[.pointer (some ⟨b, 0, none⟩), .string p] w (PlaceAns fs p w) := by
  obtain ⟨A1, c1, A2, c2, hb, _, _, h1, _⟩ := h
  have k0 : w.cell? ⟨b, 0, none⟩ = some (.slice A1 fs.length c1) := obj_cell hb 0
  have HS := Lib.hid (search_files (c := c1) p h1 hr hn)
  clear hb h1 hr hn
  go_enter Try.func40, Try.ntmps40
  go_wp2_with fail
  go_at_call 54
  (with_reducible refine HS.out.mono ?_)
  rintro e w1 ⟨i, t, rfl, hp, hb⟩
  have HP := Lib.hid hp
  have HB := Lib.hid hb
  clear hp hb
  go_wp2_with fail
  go_ret2
  exact ⟨i, t, rfl, HP.out, HB.out⟩
end Go.Proofs.Ytcjbhjbjkfgphaa

/-
  The law's right, of a repeat; and of any tree that is right. No condition.
-/
import Derived.Test.YtcidkfajembfhaaPright
namespace Go.Proofs.Ytcidkfajembfhaa
open Go.RowKit Go.Deep

set_option maxRecDepth 100000 in
set_option maxHeartbeats 1000000 in
theorem right_repmo {T : Nat → Nat} {lo hi num : Int} {kids : List PN} {g g' : Nat} (h1 : kids.length = 1) (a0 : 0 ≤ lo) (a1 : lo ≤ 20) (a2 : hi ≤ 20) (h3 : hi = -1) (_hn4 : kids.length ≤ 4096) (hw : RightW WalkR kids g g') (hg' : g' ≤ 1000) {S : Nat → Prop} {w : World} {xs : List NV} {A : Option Addr} {c : Nat} (hl : xs.length = kids.length) (_hc : kids.length ≤ c) (hr : RawOff S w A (nsV xs)) (hk : ∀ (i : Nat) (t : PN) (x : NV), kids[i]? = some t → xs[i]? = some x → IsP S w t x) {x : NV} (hx0 : xs[0]? = some x) (hk1 : x.kind = 1) : Calls Try.prog 18 #[.agg #[.int .i64 4, .int .u64 (T 0), .int .u64 (T 1), .int .u64 (T 2), .int .u64 (T 3), .int .i64 lo, .int .i64 hi, .int .i64 num, .slice A kids.length c], .int .i64 (g : Int)] w (RightR g' w) := by
  have HW := Lib.hid hw
  have HR := Lib.hid (And.intro hl (And.intro hr hk))
  have HG := Lib.hid hg'
  obtain ⟨N, hN⟩ : ∃ N, N = kids.length := ⟨_, rfl⟩
  have HN := Lib.hid hN
  have hN4 : N ≤ 4096 := by omega
  have d0 : ((N : Int) == 1) = true := by rw [hN, h1]; rfl
  have hN0 : (0 : Int) < (N : Int) := by omega
  have d1 : decide (lo ≥ 0) = true := decide_eq_true a0
  have d2 : decide (lo ≤ 20) = true := decide_eq_true a1
  have d3 : decide (hi ≤ 20) = true := decide_eq_true a2
  have d4 : (hi == -1) = true := by simp [h3]
  have d6 : (x.kind == 1) = true := by simp [hk1]
  obtain ⟨ba, oa, he, hba, hcs⟩ := off_at hr (by rintro rfl; simp at hx0)
  have m0 := (hcs 0 x hx0).1
  rw [Nat.zero_mul, Nat.add_zero] at m0
  cases he
  clear hcs h1 hx0 hk1 h3
  rw [← hN]
  clear hw hl hr hk _hc hg' hN _hn4
  go_enter Try.func18, Try.ntmps18
  go_wp2_with fail
  go_loopw [1, 6, 7] (fun gv okv iv wr => RRel w kids (.cells #[.int .i64 4, .int .u64 (T 0), .int .u64 (T 1), .int .u64 (T 2), .int .u64 (T 3), .int .i64 lo, .int .i64 hi, .int .i64 num, .slice (some ⟨ba, oa, none⟩) N c] 29) g' gv okv iv wr) (fun _ _ iv _ => kids.length - (intOf iv).toNat)
  case atStart => exact ⟨0, g, rfl, rfl, rfl, Nat.zero_le _, HW.out, Below.refl _ _⟩
  case round =>
    obtain ⟨i, gi, rfl, rfl, rfl, hi', hrw, hbr⟩ := hrel
    have hb' := (bA w _).trans (hbr.mono (Nat.le_succ _))
    obtain ⟨⟨k0, k1, k2, k3, k4, k5, k6, k7, k8⟩, _⟩ := box9 (Below.obj hbr (new_obj w _) (Nat.lt_succ_self _))
    by_cases hlt : i < N
    · obtain ⟨t, ht⟩ : ∃ t, kids[i]? = some t := ⟨kids[i]'(by rw [← HN.out]; exact hlt), List.getElem?_eq_getElem _⟩
      obtain ⟨x, hx⟩ : ∃ x, xs[i]? = some x := ⟨xs[i]'(by rw [HR.out.1, ← HN.out]; exact hlt), List.getElem?_eq_getElem _⟩
      have hdrop : kids.drop i = t :: kids.drop (i + 1) := by
        obtain ⟨hh, e⟩ := List.getElem?_eq_some_iff.1 ht
        rw [List.drop_eq_getElem_cons hh, e]
      rw [hdrop] at hrw
      obtain ⟨g1, hP, hrest⟩ := hrw
      obtain ⟨b, o, he, hbl, hcs⟩ := off_at HR.out.2.1 (by rintro rfl; simp at hx)
      cases he
      obtain ⟨m0', m1, m2, m3, m4, m5, m6, m7, m8⟩ := hcs i x hx
      have n0 := (hb'.cell hbl).trans m0'
      have n1 := (hb'.cell hbl).trans m1
      have n2 := (hb'.cell hbl).trans m2
      have n3 := (hb'.cell hbl).trans m3
      have n4 := (hb'.cell hbl).trans m4
      have n5 := (hb'.cell hbl).trans m5
      have n6 := (hb'.cell hbl).trans m6
      have n7 := (hb'.cell hbl).trans m7
      have n8 := (hb'.cell hbl).trans m8
      have hcall := hP.2 (Nat.le_trans hrest.mono HG.out) S wr x ((HR.out.2.2 i t x ht hx).stays hb')
      rw [NV.v_eq] at hcall
      have HC := Lib.hid hcall
      have HRE := Lib.hid hrest
      have HBR := Lib.hid hbr
      have hiI : (i : Int) < (N : Int) := by omega
      have hi0 : (0 : Int) ≤ (i : Int) := by omega
      have hi4 : i < 4096 := by omega
      clear hcall hrest hbr hP hcs m0' m1 m2 m3 m4 m5 m6 m7 m8 hb' hdrop ht hx
      go_wp2_with fail
      go_at_call 18
      refine HC.out.mono ?_
      rintro e w5 ⟨rfl, hb5⟩
      have HB5 := Lib.hid hb5
      clear hb5
      go_wp2_with fail
      go_roundw
      case rel => exact ⟨i + 1, g1, by go_num, rfl, rfl, by have := HN.out; omega, HRE.out, HBR.out.trans (HB5.out.mono (by have := HBR.out.size; rw [World.size_alloc] at this; exact this))⟩
      case measure => have := HN.out; simp [intOf]; omega
    · have he : i = N := by rw [← HN.out] at hi'; omega
      subst he
      have hiI : ¬ (i : Int) < (i : Int) := by omega
      have hg : gi = g' := by
        rw [HN.out, List.drop_length] at hrw
        exact hrw
      subst hg
      have HB := Lib.hid hb'
      clear hbr hb' hrw
      go_wp2_with fail
      exact bodyPost_ret (v := .tuple #[.int .i64 (gi : Int), .bool true]) (by simp [results, Try.results18, go_sem]) rfl ⟨rfl, HB.out⟩
set_option maxRecDepth 100000 in
set_option maxHeartbeats 1000000 in
theorem right_repmg {T : Nat → Nat} {lo hi num : Int} {kids : List PN} {g g' : Nat} (h1 : kids.length = 1) (a0 : 0 ≤ lo) (a1 : lo ≤ 20) (a2 : hi ≤ 20) (h3 : hi = -1) (_hn4 : kids.length ≤ 4096) (hw : RightW WalkR kids g g') (hg' : g' ≤ 1000) {S : Nat → Prop} {w : World} {xs : List NV} {A : Option Addr} {c : Nat} (hl : xs.length = kids.length) (_hc : kids.length ≤ c) (hr : RawOff S w A (nsV xs)) (hk : ∀ (i : Nat) (t : PN) (x : NV), kids[i]? = some t → xs[i]? = some x → IsP S w t x) {x : NV} (hx0 : xs[0]? = some x) (hk1 : x.kind = 5) : Calls Try.prog 18 #[.agg #[.int .i64 4, .int .u64 (T 0), .int .u64 (T 1), .int .u64 (T 2), .int .u64 (T 3), .int .i64 lo, .int .i64 hi, .int .i64 num, .slice A kids.length c], .int .i64 (g : Int)] w (RightR g' w) := by
  have HW := Lib.hid hw
  have HR := Lib.hid (And.intro hl (And.intro hr hk))
  have HG := Lib.hid hg'
  obtain ⟨N, hN⟩ : ∃ N, N = kids.length := ⟨_, rfl⟩
  have HN := Lib.hid hN
  have hN4 : N ≤ 4096 := by omega
  have d0 : ((N : Int) == 1) = true := by rw [hN, h1]; rfl
  have hN0 : (0 : Int) < (N : Int) := by omega
  have d1 : decide (lo ≥ 0) = true := decide_eq_true a0
  have d2 : decide (lo ≤ 20) = true := decide_eq_true a1
  have d3 : decide (hi ≤ 20) = true := decide_eq_true a2
  have d4 : (hi == -1) = true := by simp [h3]
  have d6 : (x.kind == 1) = false := by simp [hk1]
  have d7 : (x.kind == 5) = true := by simp [hk1]
  obtain ⟨ba, oa, he, hba, hcs⟩ := off_at hr (by rintro rfl; simp at hx0)
  have m0 := (hcs 0 x hx0).1
  rw [Nat.zero_mul, Nat.add_zero] at m0
  cases he
  clear hcs h1 hx0 hk1 h3
  rw [← hN]
  clear hw hl hr hk _hc hg' hN _hn4
  go_enter Try.func18, Try.ntmps18
  go_wp2_with fail
  go_loopw [1, 6, 7] (fun gv okv iv wr => RRel w kids (.cells #[.int .i64 4, .int .u64 (T 0), .int .u64 (T 1), .int .u64 (T 2), .int .u64 (T 3), .int .i64 lo, .int .i64 hi, .int .i64 num, .slice (some ⟨ba, oa, none⟩) N c] 29) g' gv okv iv wr) (fun _ _ iv _ => kids.length - (intOf iv).toNat)
  case atStart => exact ⟨0, g, rfl, rfl, rfl, Nat.zero_le _, HW.out, Below.refl _ _⟩
  case round =>
    obtain ⟨i, gi, rfl, rfl, rfl, hi', hrw, hbr⟩ := hrel
    have hb' := (bA w _).trans (hbr.mono (Nat.le_succ _))
    obtain ⟨⟨k0, k1, k2, k3, k4, k5, k6, k7, k8⟩, _⟩ := box9 (Below.obj hbr (new_obj w _) (Nat.lt_succ_self _))
    by_cases hlt : i < N
    · obtain ⟨t, ht⟩ : ∃ t, kids[i]? = some t := ⟨kids[i]'(by rw [← HN.out]; exact hlt), List.getElem?_eq_getElem _⟩
      obtain ⟨x, hx⟩ : ∃ x, xs[i]? = some x := ⟨xs[i]'(by rw [HR.out.1, ← HN.out]; exact hlt), List.getElem?_eq_getElem _⟩
      have hdrop : kids.drop i = t :: kids.drop (i + 1) := by
        obtain ⟨hh, e⟩ := List.getElem?_eq_some_iff.1 ht
        rw [List.drop_eq_getElem_cons hh, e]
      rw [hdrop] at hrw
      obtain ⟨g1, hP, hrest⟩ := hrw
      obtain ⟨b, o, he, hbl, hcs⟩ := off_at HR.out.2.1 (by rintro rfl; simp at hx)
      cases he
      obtain ⟨m0', m1, m2, m3, m4, m5, m6, m7, m8⟩ := hcs i x hx
      have n0 := (hb'.cell hbl).trans m0'
      have n1 := (hb'.cell hbl).trans m1
      have n2 := (hb'.cell hbl).trans m2
      have n3 := (hb'.cell hbl).trans m3
      have n4 := (hb'.cell hbl).trans m4
      have n5 := (hb'.cell hbl).trans m5
      have n6 := (hb'.cell hbl).trans m6
      have n7 := (hb'.cell hbl).trans m7
      have n8 := (hb'.cell hbl).trans m8
      have hcall := hP.2 (Nat.le_trans hrest.mono HG.out) S wr x ((HR.out.2.2 i t x ht hx).stays hb')
      rw [NV.v_eq] at hcall
      have HC := Lib.hid hcall
      have HRE := Lib.hid hrest
      have HBR := Lib.hid hbr
      have hiI : (i : Int) < (N : Int) := by omega
      have hi0 : (0 : Int) ≤ (i : Int) := by omega
      have hi4 : i < 4096 := by omega
      clear hcall hrest hbr hP hcs m0' m1 m2 m3 m4 m5 m6 m7 m8 hb' hdrop ht hx
      go_wp2_with fail
      go_at_call 18
      refine HC.out.mono ?_
      rintro e w5 ⟨rfl, hb5⟩
      have HB5 := Lib.hid hb5
      clear hb5
      go_wp2_with fail
      go_roundw
      case rel => exact ⟨i + 1, g1, by go_num, rfl, rfl, by have := HN.out; omega, HRE.out, HBR.out.trans (HB5.out.mono (by have := HBR.out.size; rw [World.size_alloc] at this; exact this))⟩
      case measure => have := HN.out; simp [intOf]; omega
    · have he : i = N := by rw [← HN.out] at hi'; omega
      subst he
      have hiI : ¬ (i : Int) < (i : Int) := by omega
      have hg : gi = g' := by
        rw [HN.out, List.drop_length] at hrw
        exact hrw
      subst hg
      have HB := Lib.hid hb'
      clear hbr hb' hrw
      go_wp2_with fail
      exact bodyPost_ret (v := .tuple #[.int .i64 (gi : Int), .bool true]) (by simp [results, Try.results18, go_sem]) rfl ⟨rfl, HB.out⟩
set_option maxRecDepth 100000 in
set_option maxHeartbeats 1000000 in
theorem right_repno {T : Nat → Nat} {lo hi num : Int} {kids : List PN} {g g' : Nat} (h1 : kids.length = 1) (a0 : 0 ≤ lo) (a1 : lo ≤ 20) (a2 : hi ≤ 20) (h3 : hi ≠ -1) (h4 : lo ≤ hi) (_hn4 : kids.length ≤ 4096) (hw : RightW WalkR kids g g') (hg' : g' ≤ 1000) {S : Nat → Prop} {w : World} {xs : List NV} {A : Option Addr} {c : Nat} (hl : xs.length = kids.length) (_hc : kids.length ≤ c) (hr : RawOff S w A (nsV xs)) (hk : ∀ (i : Nat) (t : PN) (x : NV), kids[i]? = some t → xs[i]? = some x → IsP S w t x) {x : NV} (hx0 : xs[0]? = some x) (hk1 : x.kind = 1) : Calls Try.prog 18 #[.agg #[.int .i64 4, .int .u64 (T 0), .int .u64 (T 1), .int .u64 (T 2), .int .u64 (T 3), .int .i64 lo, .int .i64 hi, .int .i64 num, .slice A kids.length c], .int .i64 (g : Int)] w (RightR g' w) := by
  have HW := Lib.hid hw
  have HR := Lib.hid (And.intro hl (And.intro hr hk))
  have HG := Lib.hid hg'
  obtain ⟨N, hN⟩ : ∃ N, N = kids.length := ⟨_, rfl⟩
  have HN := Lib.hid hN
  have hN4 : N ≤ 4096 := by omega
  have d0 : ((N : Int) == 1) = true := by rw [hN, h1]; rfl
  have hN0 : (0 : Int) < (N : Int) := by omega
  have d1 : decide (lo ≥ 0) = true := decide_eq_true a0
  have d2 : decide (lo ≤ 20) = true := decide_eq_true a1
  have d3 : decide (hi ≤ 20) = true := decide_eq_true a2
  have d4 : (hi == -1) = false := by simp [h3]
  have d5 : decide (hi ≥ lo) = true := decide_eq_true h4
  have d6 : (x.kind == 1) = true := by simp [hk1]
  obtain ⟨ba, oa, he, hba, hcs⟩ := off_at hr (by rintro rfl; simp at hx0)
  have m0 := (hcs 0 x hx0).1
  rw [Nat.zero_mul, Nat.add_zero] at m0
  cases he
  clear hcs h1 hx0 hk1 h3
  rw [← hN]
  clear hw hl hr hk _hc hg' hN _hn4
  go_enter Try.func18, Try.ntmps18
  go_wp2_with fail
  go_loopw [1, 6, 7] (fun gv okv iv wr => RRel w kids (.cells #[.int .i64 4, .int .u64 (T 0), .int .u64 (T 1), .int .u64 (T 2), .int .u64 (T 3), .int .i64 lo, .int .i64 hi, .int .i64 num, .slice (some ⟨ba, oa, none⟩) N c] 29) g' gv okv iv wr) (fun _ _ iv _ => kids.length - (intOf iv).toNat)
  case atStart => exact ⟨0, g, rfl, rfl, rfl, Nat.zero_le _, HW.out, Below.refl _ _⟩
  case round =>
    obtain ⟨i, gi, rfl, rfl, rfl, hi', hrw, hbr⟩ := hrel
    have hb' := (bA w _).trans (hbr.mono (Nat.le_succ _))
    obtain ⟨⟨k0, k1, k2, k3, k4, k5, k6, k7, k8⟩, _⟩ := box9 (Below.obj hbr (new_obj w _) (Nat.lt_succ_self _))
    by_cases hlt : i < N
    · obtain ⟨t, ht⟩ : ∃ t, kids[i]? = some t := ⟨kids[i]'(by rw [← HN.out]; exact hlt), List.getElem?_eq_getElem _⟩
      obtain ⟨x, hx⟩ : ∃ x, xs[i]? = some x := ⟨xs[i]'(by rw [HR.out.1, ← HN.out]; exact hlt), List.getElem?_eq_getElem _⟩
      have hdrop : kids.drop i = t :: kids.drop (i + 1) := by
        obtain ⟨hh, e⟩ := List.getElem?_eq_some_iff.1 ht
        rw [List.drop_eq_getElem_cons hh, e]
      rw [hdrop] at hrw
      obtain ⟨g1, hP, hrest⟩ := hrw
      obtain ⟨b, o, he, hbl, hcs⟩ := off_at HR.out.2.1 (by rintro rfl; simp at hx)
      cases he
      obtain ⟨m0', m1, m2, m3, m4, m5, m6, m7, m8⟩ := hcs i x hx
      have n0 := (hb'.cell hbl).trans m0'
      have n1 := (hb'.cell hbl).trans m1
      have n2 := (hb'.cell hbl).trans m2
      have n3 := (hb'.cell hbl).trans m3
      have n4 := (hb'.cell hbl).trans m4
      have n5 := (hb'.cell hbl).trans m5
      have n6 := (hb'.cell hbl).trans m6
      have n7 := (hb'.cell hbl).trans m7
      have n8 := (hb'.cell hbl).trans m8
      have hcall := hP.2 (Nat.le_trans hrest.mono HG.out) S wr x ((HR.out.2.2 i t x ht hx).stays hb')
      rw [NV.v_eq] at hcall
      have HC := Lib.hid hcall
      have HRE := Lib.hid hrest
      have HBR := Lib.hid hbr
      have hiI : (i : Int) < (N : Int) := by omega
      have hi0 : (0 : Int) ≤ (i : Int) := by omega
      have hi4 : i < 4096 := by omega
      clear hcall hrest hbr hP hcs m0' m1 m2 m3 m4 m5 m6 m7 m8 hb' hdrop ht hx
      go_wp2_with fail
      go_at_call 18
      refine HC.out.mono ?_
      rintro e w5 ⟨rfl, hb5⟩
      have HB5 := Lib.hid hb5
      clear hb5
      go_wp2_with fail
      go_roundw
      case rel => exact ⟨i + 1, g1, by go_num, rfl, rfl, by have := HN.out; omega, HRE.out, HBR.out.trans (HB5.out.mono (by have := HBR.out.size; rw [World.size_alloc] at this; exact this))⟩
      case measure => have := HN.out; simp [intOf]; omega
    · have he : i = N := by rw [← HN.out] at hi'; omega
      subst he
      have hiI : ¬ (i : Int) < (i : Int) := by omega
      have hg : gi = g' := by
        rw [HN.out, List.drop_length] at hrw
        exact hrw
      subst hg
      have HB := Lib.hid hb'
      clear hbr hb' hrw
      go_wp2_with fail
      exact bodyPost_ret (v := .tuple #[.int .i64 (gi : Int), .bool true]) (by simp [results, Try.results18, go_sem]) rfl ⟨rfl, HB.out⟩
set_option maxRecDepth 100000 in
set_option maxHeartbeats 1000000 in
theorem right_repng {T : Nat → Nat} {lo hi num : Int} {kids : List PN} {g g' : Nat} (h1 : kids.length = 1) (a0 : 0 ≤ lo) (a1 : lo ≤ 20) (a2 : hi ≤ 20) (h3 : hi ≠ -1) (h4 : lo ≤ hi) (_hn4 : kids.length ≤ 4096) (hw : RightW WalkR kids g g') (hg' : g' ≤ 1000) {S : Nat → Prop} {w : World} {xs : List NV} {A : Option Addr} {c : Nat} (hl : xs.length = kids.length) (_hc : kids.length ≤ c) (hr : RawOff S w A (nsV xs)) (hk : ∀ (i : Nat) (t : PN) (x : NV), kids[i]? = some t → xs[i]? = some x → IsP S w t x) {x : NV} (hx0 : xs[0]? = some x) (hk1 : x.kind = 5) : Calls Try.prog 18 #[.agg #[.int .i64 4, .int .u64 (T 0), .int .u64 (T 1), .int .u64 (T 2), .int .u64 (T 3), .int .i64 lo, .int .i64 hi, .int .i64 num, .slice A kids.length c], .int .i64 (g : Int)] w (RightR g' w) := by
  have HW := Lib.hid hw
  have HR := Lib.hid (And.intro hl (And.intro hr hk))
  have HG := Lib.hid hg'
  obtain ⟨N, hN⟩ : ∃ N, N = kids.length := ⟨_, rfl⟩
  have HN := Lib.hid hN
  have hN4 : N ≤ 4096 := by omega
  have d0 : ((N : Int) == 1) = true := by rw [hN, h1]; rfl
  have hN0 : (0 : Int) < (N : Int) := by omega
  have d1 : decide (lo ≥ 0) = true := decide_eq_true a0
  have d2 : decide (lo ≤ 20) = true := decide_eq_true a1
  have d3 : decide (hi ≤ 20) = true := decide_eq_true a2
  have d4 : (hi == -1) = false := by simp [h3]
  have d5 : decide (hi ≥ lo) = true := decide_eq_true h4
  have d6 : (x.kind == 1) = false := by simp [hk1]
  have d7 : (x.kind == 5) = true := by simp [hk1]
  obtain ⟨ba, oa, he, hba, hcs⟩ := off_at hr (by rintro rfl; simp at hx0)
  have m0 := (hcs 0 x hx0).1
  rw [Nat.zero_mul, Nat.add_zero] at m0
  cases he
  clear hcs h1 hx0 hk1 h3
  rw [← hN]
  clear hw hl hr hk _hc hg' hN _hn4
  go_enter Try.func18, Try.ntmps18
  go_wp2_with fail
  go_loopw [1, 6, 7] (fun gv okv iv wr => RRel w kids (.cells #[.int .i64 4, .int .u64 (T 0), .int .u64 (T 1), .int .u64 (T 2), .int .u64 (T 3), .int .i64 lo, .int .i64 hi, .int .i64 num, .slice (some ⟨ba, oa, none⟩) N c] 29) g' gv okv iv wr) (fun _ _ iv _ => kids.length - (intOf iv).toNat)
  case atStart => exact ⟨0, g, rfl, rfl, rfl, Nat.zero_le _, HW.out, Below.refl _ _⟩
  case round =>
    obtain ⟨i, gi, rfl, rfl, rfl, hi', hrw, hbr⟩ := hrel
    have hb' := (bA w _).trans (hbr.mono (Nat.le_succ _))
    obtain ⟨⟨k0, k1, k2, k3, k4, k5, k6, k7, k8⟩, _⟩ := box9 (Below.obj hbr (new_obj w _) (Nat.lt_succ_self _))
    by_cases hlt : i < N
    · obtain ⟨t, ht⟩ : ∃ t, kids[i]? = some t := ⟨kids[i]'(by rw [← HN.out]; exact hlt), List.getElem?_eq_getElem _⟩
      obtain ⟨x, hx⟩ : ∃ x, xs[i]? = some x := ⟨xs[i]'(by rw [HR.out.1, ← HN.out]; exact hlt), List.getElem?_eq_getElem _⟩
      have hdrop : kids.drop i = t :: kids.drop (i + 1) := by
        obtain ⟨hh, e⟩ := List.getElem?_eq_some_iff.1 ht
        rw [List.drop_eq_getElem_cons hh, e]
      rw [hdrop] at hrw
      obtain ⟨g1, hP, hrest⟩ := hrw
      obtain ⟨b, o, he, hbl, hcs⟩ := off_at HR.out.2.1 (by rintro rfl; simp at hx)
      cases he
      obtain ⟨m0', m1, m2, m3, m4, m5, m6, m7, m8⟩ := hcs i x hx
      have n0 := (hb'.cell hbl).trans m0'
      have n1 := (hb'.cell hbl).trans m1
      have n2 := (hb'.cell hbl).trans m2
      have n3 := (hb'.cell hbl).trans m3
      have n4 := (hb'.cell hbl).trans m4
      have n5 := (hb'.cell hbl).trans m5
      have n6 := (hb'.cell hbl).trans m6
      have n7 := (hb'.cell hbl).trans m7
      have n8 := (hb'.cell hbl).trans m8
      have hcall := hP.2 (Nat.le_trans hrest.mono HG.out) S wr x ((HR.out.2.2 i t x ht hx).stays hb')
      rw [NV.v_eq] at hcall
      have HC := Lib.hid hcall
      have HRE := Lib.hid hrest
      have HBR := Lib.hid hbr
      have hiI : (i : Int) < (N : Int) := by omega
      have hi0 : (0 : Int) ≤ (i : Int) := by omega
      have hi4 : i < 4096 := by omega
      clear hcall hrest hbr hP hcs m0' m1 m2 m3 m4 m5 m6 m7 m8 hb' hdrop ht hx
      go_wp2_with fail
      go_at_call 18
      refine HC.out.mono ?_
      rintro e w5 ⟨rfl, hb5⟩
      have HB5 := Lib.hid hb5
      clear hb5
      go_wp2_with fail
      go_roundw
      case rel => exact ⟨i + 1, g1, by go_num, rfl, rfl, by have := HN.out; omega, HRE.out, HBR.out.trans (HB5.out.mono (by have := HBR.out.size; rw [World.size_alloc] at this; exact this))⟩
      case measure => have := HN.out; simp [intOf]; omega
    · have he : i = N := by rw [← HN.out] at hi'; omega
      subst he
      have hiI : ¬ (i : Int) < (i : Int) := by omega
      have hg : gi = g' := by
        rw [HN.out, List.drop_length] at hrw
        exact hrw
      subst hg
      have HB := Lib.hid hb'
      clear hbr hb' hrw
      go_wp2_with fail
      exact bodyPost_ret (v := .tuple #[.int .i64 (gi : Int), .bool true]) (by simp [results, Try.results18, go_sem]) rfl ⟨rfl, HB.out⟩
theorem right_is : ∀ {t : PN} {g g' : Nat}, Right t g g' → WalkR t g g' := by
  intro t g g' h
  refine Right.rec (motive_1 := fun t g g' _ => WalkR t g g') (motive_2 := fun l g g' _ => RightW WalkR l g g') ?_ ?_ ?_ ?_ ?_ ?_ h
  · intro k T lo hi num g hk
    refine ⟨Nat.le_refl _, fun hg' S w y hy => ?_⟩
    cases hy with
    | mk xs hl hc hr hkk =>
      rcases hk with rfl | rfl | rfl
      · exact right_one (kids := []) rfl (by simp) (show RightW WalkR [] g g from rfl) hg' hl hc hr hkk
      · exact right_begin (kids := []) rfl (by simp) (show RightW WalkR [] g g from rfl) hg' hl hc hr hkk
      · exact right_end (kids := []) rfl (by simp) (show RightW WalkR [] g g from rfl) hg' hl hc hr hkk
  · intro k T lo hi num kids g g' hk h2 h4 _ ih
    refine ⟨ih.mono, fun hg' S w y hy => ?_⟩
    cases hy with
    | mk xs hl hc hr hkk =>
      rcases hk with rfl | rfl
      · exact right_row h2 h4 ih hg' hl hc hr hkk
      · exact right_either h2 h4 ih hg' hl hc hr hkk
  · intro T lo hi n g g' _ ih
    refine ⟨Nat.le_trans (Nat.le_succ g) ih.mono, fun hg' S w y hy => ?_⟩
    cases hy with
    | mk xs hl hc hr hkk => exact right_group (_num := 0) rfl rfl (by simp) ih hg' hl hc hr hkk
  · intro T lo hi num n g g' h0 h1 h2 h3 hk _ ih
    refine ⟨ih.mono, fun hg' S w y hy => ?_⟩
    cases hy with
    | mk xs hl hc hr hkk =>
      obtain ⟨x, rfl⟩ := List.length_eq_one_iff.1 hl
      have hx : x.kind = n.kind := by
        have := hkk 0 n x rfl rfl
        cases this
        rfl
      by_cases hm : hi = -1
      · rcases hk with hk | hk
        · exact right_repmo rfl h0 h1 h2 hm (by simp) ih hg' hl hc hr hkk (x := x) rfl (hx.trans hk)
        · exact right_repmg rfl h0 h1 h2 hm (by simp) ih hg' hl hc hr hkk (x := x) rfl (hx.trans hk)
      · have hle : lo ≤ hi := h3.resolve_left hm
        rcases hk with hk | hk
        · exact right_repno rfl h0 h1 h2 hm hle (by simp) ih hg' hl hc hr hkk (x := x) rfl (hx.trans hk)
        · exact right_repng rfl h0 h1 h2 hm hle (by simp) ih hg' hl hc hr hkk (x := x) rfl (hx.trans hk)
  · intro g
    rfl
  · intro n r g g1 g2 _ _ h1 h2
    exact ⟨g1, h1, h2⟩
end Go.Proofs.Ytcidkfajembfhaa

/-
  The program's turned, all ways as one. Condition: both together are no longer than 65536 bytes, neither is empty.
  The program's joined: two ropes of any depths as one. Condition: both together are no longer than 65536 bytes, neither is empty.
-/
import Derived.Test.YtcjbhjbjkfgphaaRturn2
namespace Go.Proofs.Ytcjbhjbjkfgphaa
open Go.RowKit Go.Deep

theorem turned_any {a b : RT} {w : World} {x y : Nat} (ha : IsRT w x a) (hb : IsRT w y b) (ka : a.ok) (kb : b.ok) (na : a.text ≠ []) (nb : b.text ≠ []) (hn : a.text.length + b.text.length ≤ 65536) :
    Calls Try.prog 52 #[.pointer (some ⟨x, 0, none⟩), .pointer (some ⟨y, 0, none⟩)] w (MadeText (a.text ++ b.text) w) := by
  have la := RT.len_pos na
  have lb := RT.len_pos nb
  have ea := RT.depth_le ka na
  have eb := RT.depth_le kb nb
  by_cases h1 : b.depth + 1 < a.depth
  · cases a with
    | part s => simp [RT.depth] at h1
    | node l r =>
      obtain ⟨xl, xr, hx, hl, hr⟩ := ha
      obtain ⟨nl, nr, kl, kr⟩ := ka
      have ll := RT.len_pos nl
      have lr := RT.len_pos nr
      have el := RT.depth_le kl nl
      have er := RT.depth_le kr nr
      simp only [RT.text, List.length_append] at hn
      by_cases h2 : l.depth < r.depth
      · cases r with
        | part s => simp [RT.depth] at h2
        | node p q =>
          obtain ⟨xp, xq, hx2, hp, hq⟩ := hr
          obtain ⟨np, nq, kp, kq⟩ := kr
          have lp := RT.len_pos np
          have lq := RT.len_pos nq
          have ep := RT.depth_le kp np
          have eq := RT.depth_le kq nq
          simp only [RT.text, List.length_append] at hn
          refine (turned_a1 hx hl hx2 hp hq hb (by omega) (by omega) (by omega) (by omega) (by omega) h1 h2).mono ?_
          intro e w' h
          exact ⟨.node (.node l p) (.node q b), ⟨by simp [RT.text, nl], by simp [RT.text, nq], ⟨nl, np, kl, kp⟩, ⟨nq, nb, kq, kb⟩⟩, by simp [RT.text], h⟩
      · refine (turned_a2 hx hl hr hb (by omega) (by omega) (by omega) (by omega) h1 h2).mono ?_
        intro e w' h
        exact ⟨.node l (.node r b), ⟨nl, by simp [RT.text, nr], kl, ⟨nr, nb, kr, kb⟩⟩, by simp [RT.text], h⟩
  · by_cases h3 : a.depth + 1 < b.depth
    · cases b with
      | part s => simp [RT.depth] at h3
      | node l r =>
        obtain ⟨yl, yr, hy, hl, hr⟩ := hb
        obtain ⟨nl, nr, kl, kr⟩ := kb
        have ll := RT.len_pos nl
        have lr := RT.len_pos nr
        have el := RT.depth_le kl nl
        have er := RT.depth_le kr nr
        simp only [RT.text, List.length_append] at hn
        by_cases h2 : r.depth < l.depth
        · cases l with
          | part s => simp [RT.depth] at h2
          | node p q =>
            obtain ⟨yp, yq, hy2, hp, hq⟩ := hl
            obtain ⟨np, nq, kp, kq⟩ := kl
            have lp := RT.len_pos np
            have lq := RT.len_pos nq
            have ep := RT.depth_le kp np
            have eq := RT.depth_le kq nq
            simp only [RT.text, List.length_append] at hn
            refine (turned_b1 hy hy2 ha hp hq hr (by omega) (by omega) (by omega) (by omega) (by omega) h3 h2).mono ?_
            intro e w' h
            exact ⟨.node (.node a p) (.node q r), ⟨by simp [RT.text, na], by simp [RT.text, nq], ⟨na, np, ka, kp⟩, ⟨nq, nr, kq, kr⟩⟩, by simp [RT.text], h⟩
        · refine (turned_b2 hy ha hl hr (by omega) (by omega) (by omega) (by omega) h3 h2).mono ?_
          intro e w' h
          exact ⟨.node (.node a l) r, ⟨by simp [RT.text, na], nr, ⟨na, nl, ka, kl⟩, kr⟩, by simp [RT.text], h⟩
    · refine (turned_c ha hb hn (by omega) (by omega) h1 h3).mono ?_
      intro e w' h
      exact ⟨.node a b, ⟨na, nb, ka, kb⟩, rfl, h⟩
end Go.Proofs.Ytcjbhjbjkfgphaa

namespace Go.Proofs.Ytcjbhjbjkfgphaa
open Go.RowKit Go.Deep

set_option maxRecDepth 100000 in
set_option maxHeartbeats 4000000 in
theorem joined_deep (n : Nat) : ∀ (a b : RT) (w : World) (x y : Nat), a.depth + b.depth ≤ n → IsRT w x a → IsRT w y b → a.ok → b.ok → a.text ≠ [] → b.text ≠ [] → a.text.length + b.text.length ≤ 65536 →
    Calls Try.prog 38 #[.pointer (some ⟨x, 0, none⟩), .pointer (some ⟨y, 0, none⟩)] w (MadeText (a.text ++ b.text) w) := by
  induction n with
  | zero =>
    intro a b w x y hdep ha hb ka kb na nb hn
    have d1 : a.depth = 0 := by omega
    have d2 : b.depth = 0 := by omega
    have f0 := ha.depthC
    have f1 := hb.depthC
    rw [d1] at f0
    rw [d2] at f1
    have HC := Lib.hid fun (W : World) (hB : Below w.heap.size w W) => show W.cell? ⟨x, 5, none⟩ = some (.int .i64 0) ∧ W.cell? ⟨y, 5, none⟩ = some (.int .i64 0) from
      ⟨by have := top_depth ha hB; rw [d1] at this; exact this, by have := top_depth hb hB; rw [d2] at this; exact this⟩
    have HJ := Lib.hid fun (W : World) (hB : Below w.heap.size w W) => joint_new (ha.below hB) (hb.below hB) (by omega) (by omega) (by omega)
    have HK := Lib.hid (show (RT.node a b).ok from ⟨na, nb, ka, kb⟩)
    clear hdep ha hb ka kb na nb hn d1 d2
    have q1 : IntKind.i64.wrap ((0 : Int) + 1) = 1 := by decide
    go_enter Try.func38, Try.ntmps38
    go_wp2_with fail
    go_quiet (fail)
    have hb0 := below_drewN' w nq
    generalize w.drewN nq = v0 at hb0 ⊢
    have HB0 := Lib.hid hb0
    clear f0 f1
    obtain ⟨f0, f1⟩ := HC.out v0 hb0
    clear hb0
    go_wp2_with fail
    go_quiet (fail)
    have hb1 := HB0.out.trans ((below_drewN' v0 nq).mono HB0.out.size)
    generalize v0.drewN nq = v1 at hb1 ⊢
    have HB1 := Lib.hid hb1
    clear f0 f1 hb1
    go_wp2_with fail
    go_at_call 53
    (with_reducible refine (HJ.out _ HB1.out).mono ?_)
    rintro e w1 ⟨u, rfl, hu, hb2⟩
    have HZ := Lib.hid hu
    have HC1 := Lib.hid (HB1.out.trans (hb2.mono HB1.out.size))
    clear hu hb2
    go_wp2_with fail
    go_ret
    exact ⟨_, HK.out, rfl, _, rfl, HZ.out, HC1.out⟩
  | succ n ih =>
    intro a b w x y hdep ha hb ka kb na nb hn
    have la := RT.len_pos na
    have lb := RT.len_pos nb
    have ea := RT.depth_le ka na
    have eb := RT.depth_le kb nb
    have f0 := ha.depthC
    have f1 := hb.depthC
    obtain ⟨da, eda⟩ : ∃ k, k = a.depth := ⟨_, rfl⟩
    obtain ⟨db, edb⟩ : ∃ k, k = b.depth := ⟨_, rfl⟩
    rw [← eda] at f0
    rw [← edb] at f1
    have hda : da ≤ 65535 := by omega
    have hdb : db ≤ 65535 := by omega
    obtain ⟨da1, eda1⟩ : ∃ k, k = da + 1 := ⟨_, rfl⟩
    obtain ⟨db1, edb1⟩ : ∃ k, k = db + 1 := ⟨_, rfl⟩
    have q1 : IntKind.i64.wrap ((da : Int) + 1) = (da1 : Int) := by rw [show (da : Int) + 1 = (da1 : Int) by omega]; exact IntWalk.i64_in _ (by omega)
    have q2 : IntKind.i64.wrap ((db : Int) + 1) = (db1 : Int) := by rw [show (db : Int) + 1 = (db1 : Int) by omega]; exact IntWalk.i64_in _ (by omega)
    have HC := Lib.hid fun (W : World) (hB : Below w.heap.size w W) => show W.cell? ⟨x, 5, none⟩ = some (.int .i64 (da : Int)) ∧ W.cell? ⟨y, 5, none⟩ = some (.int .i64 (db : Int)) from
      ⟨eda ▸ top_depth ha hB, edb ▸ top_depth hb hB⟩
    by_cases h1 : db + 1 < da
    · cases a with
      | part s => simp [RT.depth] at eda; omega
      | node l r =>
        obtain ⟨xl, xr, hx, hl, hr⟩ := ha
        obtain ⟨nl, nr, kl, kr⟩ := ka
        have g1 : decide (db1 < da) = true := by simp; omega
        have g1i : decide ((db1 : Int) < (da : Int)) = true := by simp; omega
        simp only [RT.text, List.length_append] at hn
        have hdr : r.depth + b.depth ≤ n := by simp only [RT.depth] at eda hdep; omega
        have HN := Lib.hid fun (W : World) (hB : Below w.heap.size w W) => node_cells hx hB
        have HJ1 := Lib.hid fun (W : World) (hB : Below w.heap.size w W) => ih r b W xr y hdr (hr.below hB) (hb.below hB) kr kb nr nb (by omega)
        have HJ2 := Lib.hid fun (W : World) (u : Nat) (t : RT) (hB : Below w.heap.size w W) (hu : IsRT W u t) (kt : t.ok) (et : t.text = r.text ++ b.text) => turned_any (hl.below hB) hu kl kt nl (by rw [et]; simp [nr]) (by rw [et, List.length_append]; omega)
        clear hdep hx hl hr hb nl nr kl kr kb na nb hn la lb ea eb eda edb hda hdb eda1 edb1 h1 hdr ih q1
        go_enter Try.func38, Try.ntmps38
        go_wp2_with fail
        go_quiet (fail)
        have hb0 := below_drewN' w nq
        generalize w.drewN nq = v0 at hb0 ⊢
        have HBD := Lib.hid hb0.drew
        clear f0 f1
        obtain ⟨f0, f1⟩ := HN.out v0 hb0
        clear hb0
        go_wp2_with fail
        go_region_held3 (fun wx => wx.cell? ⟨x, 1, none⟩ = some (.pointer (some ⟨xl, 0, none⟩)) ∧ wx.cell? ⟨x, 2, none⟩ = some (.pointer (some ⟨xr, 0, none⟩)))
          ((first | assumption | exact ⟨f0, f1⟩ | exact HN.out _ HC1.out | exact HN.out _ HC2.out))
          (first
            | (go_at_call 38; (with_reducible refine (HJ1.out _ HBD.out).mono ?_); rintro e w1 ⟨t, kt, et, u, rfl, hu, hb1⟩; have HC1 := Lib.hid (HBD.out.trans (hb1.mono HBD.out.size)); have HU := Lib.hid hu; have HT := Lib.hid (And.intro kt et); clear hu hb1 kt et)
            | (go_at_call 52; (with_reducible refine (HJ2.out _ _ t HC1.out HU.out HT.out.1 HT.out.2).mono ?_); rintro e w2 ⟨t2, kt2, et2, z, rfl, hz, hb2⟩; have HC2 := Lib.hid (HC1.out.trans (hb2.mono HC1.out.size)); have HZ := Lib.hid hz; have HT2 := Lib.hid (And.intro kt2 et2); clear hz hb2 kt2 et2))
        go_wp2_with fail
        go_ret
        exact ⟨t2, HT2.out.1, by rw [HT2.out.2, HT.out.2]; simp [RT.text], _, rfl, HZ.out, HC2.out⟩
    · have g1 : decide (db1 < da) = false := by simp; omega
      have g1i : decide ((db1 : Int) < (da : Int)) = false := by simp; omega
      by_cases h3 : da + 1 < db
      · cases b with
        | part s => simp [RT.depth] at edb; omega
        | node l r =>
          obtain ⟨yl, yr, hy, hl, hr⟩ := hb
          obtain ⟨nl, nr, kl, kr⟩ := kb
          have g2 : decide (da1 < db) = true := by simp; omega
          have g2i : decide ((da1 : Int) < (db : Int)) = true := by simp; omega
          simp only [RT.text, List.length_append] at hn
          have hdl : a.depth + l.depth ≤ n := by simp only [RT.depth] at edb hdep; omega
          have HN := Lib.hid fun (W : World) (hB : Below w.heap.size w W) => node_cells hy hB
          have HJ1 := Lib.hid fun (W : World) (hB : Below w.heap.size w W) => ih a l W x yl hdl (ha.below hB) (hl.below hB) ka kl na nl (by omega)
          have HJ2 := Lib.hid fun (W : World) (u : Nat) (t : RT) (hB : Below w.heap.size w W) (hu : IsRT W u t) (kt : t.ok) (et : t.text = a.text ++ l.text) => turned_any hu (hr.below hB) kt kr (by rw [et]; simp [na]) nr (by rw [et, List.length_append]; omega)
          clear hdep hy hl hr ha nl nr kl kr ka na nb hn la lb ea eb eda edb hda hdb eda1 edb1 h1 h3 hdl ih
          go_enter Try.func38, Try.ntmps38
          go_wp2_with fail
          go_quiet (fail)
          have hb0 := below_drewN' w nq
          generalize w.drewN nq = v0 at hb0 ⊢
          have HB0 := Lib.hid hb0
          clear f0 f1
          obtain ⟨f0, f1⟩ := HC.out v0 hb0
          clear hb0
          go_wp2_with fail
          go_quiet (fail)
          have hb1 := HB0.out.trans ((below_drewN' v0 nq).mono HB0.out.size)
          generalize v0.drewN nq = v1 at hb1 ⊢
          have HBD := Lib.hid hb1.drew
          clear f0 f1
          obtain ⟨f0, f1⟩ := HN.out v1 hb1
          clear hb1
          go_wp2_with fail
          go_region_held3 (fun wx => wx.cell? ⟨y, 1, none⟩ = some (.pointer (some ⟨yl, 0, none⟩)) ∧ wx.cell? ⟨y, 2, none⟩ = some (.pointer (some ⟨yr, 0, none⟩)))
            ((first | assumption | exact ⟨f0, f1⟩ | exact HN.out _ HC1.out | exact HN.out _ HC2.out))
            (first
              | (go_at_call 38; (with_reducible refine (HJ1.out _ HBD.out).mono ?_); rintro e w1 ⟨t, kt, et, u, rfl, hu, hb1⟩; have HC1 := Lib.hid (HBD.out.trans (hb1.mono HBD.out.size)); have HU := Lib.hid hu; have HT := Lib.hid (And.intro kt et); clear hu hb1 kt et)
              | (go_at_call 52; (with_reducible refine (HJ2.out _ _ t HC1.out HU.out HT.out.1 HT.out.2).mono ?_); rintro e w2 ⟨t2, kt2, et2, z, rfl, hz, hb2⟩; have HC2 := Lib.hid (HC1.out.trans (hb2.mono HC1.out.size)); have HZ := Lib.hid hz; have HT2 := Lib.hid (And.intro kt2 et2); clear hz hb2 kt2 et2))
          go_wp2_with fail
          go_ret
          exact ⟨t2, HT2.out.1, by rw [HT2.out.2, HT.out.2]; simp [RT.text], _, rfl, HZ.out, HC2.out⟩
      · have g2 : decide (da1 < db) = false := by simp; omega
        have g2i : decide ((da1 : Int) < (db : Int)) = false := by simp; omega
        have HJ := Lib.hid fun (W : World) (hB : Below w.heap.size w W) => joint_new (ha.below hB) (hb.below hB) (by omega) (by omega) (by omega)
        have HK := Lib.hid (show (RT.node a b).ok from ⟨na, nb, ka, kb⟩)
        clear hdep ha hb ka kb na nb hn la lb ea eb eda edb hda hdb eda1 edb1 h1 h3 ih
        go_enter Try.func38, Try.ntmps38
        go_wp2_with fail
        go_quiet (fail)
        have hb0 := below_drewN' w nq
        generalize w.drewN nq = v0 at hb0 ⊢
        have HB0 := Lib.hid hb0
        clear f0 f1
        obtain ⟨f0, f1⟩ := HC.out v0 hb0
        clear hb0
        go_wp2_with fail
        go_quiet (fail)
        have hb1 := HB0.out.trans ((below_drewN' v0 nq).mono HB0.out.size)
        generalize v0.drewN nq = v1 at hb1 ⊢
        have HB1 := Lib.hid hb1
        clear f0 f1 hb1
        go_wp2_with fail
        go_at_call 53
        (with_reducible refine (HJ.out _ HB1.out).mono ?_)
        rintro e w1 ⟨u, rfl, hu, hb2⟩
        have HZ := Lib.hid hu
        have HC1 := Lib.hid (HB1.out.trans (hb2.mono HB1.out.size))
        clear hu hb2
        go_wp2_with fail
        go_ret
        exact ⟨_, HK.out, rfl, _, rfl, HZ.out, HC1.out⟩
theorem joined_any {a b : RT} {w : World} {x y : Nat} (ha : IsRT w x a) (hb : IsRT w y b) (ka : a.ok) (kb : b.ok) (na : a.text ≠ []) (nb : b.text ≠ []) (hn : a.text.length + b.text.length ≤ 65536) :
    Calls Try.prog 38 #[.pointer (some ⟨x, 0, none⟩), .pointer (some ⟨y, 0, none⟩)] w (MadeText (a.text ++ b.text) w) :=
  joined_deep _ a b w x y (Nat.le_refl _) ha hb ka kb na nb hn
end Go.Proofs.Ytcjbhjbjkfgphaa

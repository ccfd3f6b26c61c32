/-
  Two nodes and a file between them as one node. Condition: no node has more than 64 files.
-/
import Derived.Test.YtcjbhjbjkfgphaaNhalf
namespace Go.Proofs.Ytcjbhjbjkfgphaa
open Go.RowKit Go.Deep

/-- A row that is made now. -/
def RowNew (n : Nat) (vs : List Value) (w : World) (e : Ending) (w' : World) : Prop := ∃ A c, e = .returned (.slice A n c) ∧ n ≤ c ∧ RawAt w' A vs ∧ Below w.heap.size w w'
theorem OwnNew.row {t : TypeId} {sz n : Nat} {vs : List Value} {w : World} {e : Ending} {w' : World} (h : OwnNew t sz n vs w e w') : RowNew n vs w e w' := by
  obtain ⟨v, rfl, hv, hb⟩ := h
  obtain ⟨A, c, rfl, hc, hr⟩ := own_raw hv
  exact ⟨A, c, rfl, hc, hr, hb⟩
theorem concat3 {W : World} {g : Nat} {A B C : Option Addr} {n c m d l k : Nat} {xs ys zs : List FX} (h0 : W.cell? ⟨g, 0, none⟩ = some (.slice A n c)) (h1 : W.cell? ⟨g, 1, none⟩ = some (.slice B m d)) (h2 : W.cell? ⟨g, 2, none⟩ = some (.slice C l k))
    (rx : RawAt W A (xsV xs)) (ry : RawAt W B (xsV ys)) (rz : RawAt W C (xsV zs)) (ex : n = xs.length) (ey : m = ys.length) (ez : l = zs.length) (hn : n ≤ 4096) (hm : m ≤ 4096) (hl : l ≤ 4096) :
    Calls Try.prog 57 #[.slice (some ⟨g, 0, none⟩) 3 3] W (RowNew (n + m + l) (xsV (xs ++ ys ++ zs)) W) := by
  have hc := concat_file g [⟨A, n, c, xsV xs⟩, ⟨B, m, d, xsV ys⟩, ⟨C, l, k, xsV zs⟩] W (Nat.le_refl 3) (by
    intro i r hk
    match i, hk with
    | 0, hk => cases hk; exact h0
    | 1, hk => cases hk; exact h1
    | 2, hk => cases hk; exact h2) (by
    intro r hr
    simp only [List.mem_cons, List.not_mem_nil, or_false] at hr
    rcases hr with rfl | rfl | rfl
    · exact ⟨by rw [length_xsV, ex], rx, oneCell_xsV, hn⟩
    · exact ⟨by rw [length_xsV, ey], ry, oneCell_xsV, hm⟩
    · exact ⟨by rw [length_xsV, ez], rz, oneCell_xsV, hl⟩)
  refine hc.mono fun e w' h => ?_
  have h := h.row
  have ht : tot [⟨A, n, c, xsV xs⟩, ⟨B, m, d, xsV ys⟩, ⟨C, l, k, xsV zs⟩] = n + m + l := by simp [tot, Nat.add_assoc]
  have hv : allV [⟨A, n, c, xsV xs⟩, ⟨B, m, d, xsV ys⟩, ⟨C, l, k, xsV zs⟩] = xsV (xs ++ ys ++ zs) := by simp [allV, xsV_append]
  rw [ht, hv] at h
  exact h
theorem concat2 {W : World} {g : Nat} {A B : Option Addr} {n c m d : Nat} {xs ys : List Nat} (h0 : W.cell? ⟨g, 0, none⟩ = some (.slice A n c)) (h1 : W.cell? ⟨g, 1, none⟩ = some (.slice B m d))
    (rx : RawAt W A (ksV xs)) (ry : RawAt W B (ksV ys)) (ex : n = xs.length) (ey : m = ys.length) (hn : n ≤ 4096) (hm : m ≤ 4096) :
    Calls Try.prog 71 #[.slice (some ⟨g, 0, none⟩) 2 2] W (RowNew (n + m) (ksV (xs ++ ys)) W) := by
  have hc := concat_node g [⟨A, n, c, ksV xs⟩, ⟨B, m, d, ksV ys⟩] W (by simp) (by
    intro i r hk
    match i, hk with
    | 0, hk => cases hk; exact h0
    | 1, hk => cases hk; exact h1) (by
    intro r hr
    simp only [List.mem_cons, List.not_mem_nil, or_false] at hr
    rcases hr with rfl | rfl
    · exact ⟨by rw [length_ksV, ex], rx, oneCell_ksV, hn⟩
    · exact ⟨by rw [length_ksV, ey], ry, oneCell_ksV, hm⟩)
  refine hc.mono fun e w' h => ?_
  have h := h.row
  have ht : tot [⟨A, n, c, ksV xs⟩, ⟨B, m, d, ksV ys⟩] = n + m := by simp [tot]
  have hv : allV [⟨A, n, c, ksV xs⟩, ⟨B, m, d, ksV ys⟩] = ksV (xs ++ ys) := by simp [allV, ksV]
  rw [ht, hv] at h
  exact h
/-- One file in a row of its own. -/
theorem raw_one {W : World} {g : Nat} {x : FX} {fr : Nat × Nat} {t : TypeId} (h : W.heap[g]? = some (.cells #[.string x.f.path, .int .i64 x.f.ver, .pointer x.q] t fr)) : RawAt W (some ⟨g, 0, none⟩) (xsV [x]) :=
  .inr ⟨g, 0, rfl, fun j v hv => by
    rw [Nat.zero_add, obj_cell h j]
    simpa [xsV, FX.cells] using hv⟩

theorem bl1 (W : World) (a : Obj) : Below W.heap.size W (W.alloc a) := (Below.refl _ W).alloc (Nat.le_refl _) a
theorem bl2 (W : World) (a b : Obj) : Below W.heap.size W ((W.alloc a).alloc b) := (bl1 W a).alloc (by simp) b
theorem bl3 (W : World) (a b c : Obj) : Below W.heap.size W (((W.alloc a).alloc b).alloc c) := (bl2 W a b).alloc (by simp; omega) c
theorem dl0 (W : World) : Below W.heap.size W W.drew := (Below.refl _ W).drew
theorem dl1 (W : World) (a : Obj) : Below W.heap.size W (W.alloc a).drew := (bl1 W a).drew
theorem dl2 (W : World) (a b : Obj) : Below W.heap.size W ((W.alloc a).alloc b).drew := (bl2 W a b).drew
theorem dl3 (W : World) (a b c : Obj) : Below W.heap.size W (((W.alloc a).alloc b).alloc c).drew := (bl3 W a b c).drew
theorem h3_1 (w : World) (a b c : Obj) : (((w.alloc a).alloc b).alloc c).drew.heap[w.heap.size + 1]? = some b := by
  show (((w.alloc a).alloc b).alloc c).heap[w.heap.size + 1]? = some b
  rw [Below.heap_alloc _ c _ (by simp only [World.size_alloc]; omega)]
  have h := heap_alloc_new (w.alloc a) b
  simp only [World.size_alloc] at h
  exact h
theorem h3_2 (w : World) (a b c : Obj) : (((w.alloc a).alloc b).alloc c).drew.heap[w.heap.size + 1 + 1]? = some c := by
  show (((w.alloc a).alloc b).alloc c).heap[w.heap.size + 1 + 1]? = some c
  have h := heap_alloc_new ((w.alloc a).alloc b) c
  simp only [World.size_alloc] at h
  exact h
theorem h4_1 (w : World) (a b c d : Obj) : ((((w.alloc a).alloc b).alloc c).alloc d).drew.heap[w.heap.size + 1]? = some b := by
  show ((((w.alloc a).alloc b).alloc c).alloc d).heap[w.heap.size + 1]? = some b
  rw [Below.heap_alloc _ d _ (by simp only [World.size_alloc]; omega)]
  rw [Below.heap_alloc _ c _ (by simp only [World.size_alloc]; omega)]
  have h := heap_alloc_new (w.alloc a) b
  simp only [World.size_alloc] at h
  exact h
theorem h4_2 (w : World) (a b c d : Obj) : ((((w.alloc a).alloc b).alloc c).alloc d).drew.heap[w.heap.size + 1 + 1]? = some c := by
  show ((((w.alloc a).alloc b).alloc c).alloc d).heap[w.heap.size + 1 + 1]? = some c
  rw [Below.heap_alloc _ d _ (by simp only [World.size_alloc]; omega)]
  have h := heap_alloc_new ((w.alloc a).alloc b) c
  simp only [World.size_alloc] at h
  exact h
theorem h4_3 (w : World) (a b c d : Obj) : ((((w.alloc a).alloc b).alloc c).alloc d).drew.heap[w.heap.size + 1 + 1 + 1]? = some d := by
  show ((((w.alloc a).alloc b).alloc c).alloc d).heap[w.heap.size + 1 + 1 + 1]? = some d
  have h := heap_alloc_new (((w.alloc a).alloc b).alloc c) d
  simp only [World.size_alloc] at h
  exact h
theorem z4_1 (w : World) (a b c d : Obj) : w.heap.size + 1 < ((((w.alloc a).alloc b).alloc c).alloc d).drew.heap.size := by
  show w.heap.size + 1 < ((((w.heap.push a).push b).push c).push d).size
  simp
theorem z4_2 (w : World) (a b c d : Obj) : w.heap.size + 1 + 1 < ((((w.alloc a).alloc b).alloc c).alloc d).drew.heap.size := by
  show w.heap.size + 1 + 1 < ((((w.heap.push a).push b).push c).push d).size
  simp
theorem z4_3 (w : World) (a b c d : Obj) : w.heap.size + 1 + 1 + 1 < ((((w.alloc a).alloc b).alloc c).alloc d).drew.heap.size := by
  show w.heap.size + 1 + 1 + 1 < ((((w.heap.push a).push b).push c).push d).size
  simp
theorem later {a b : World} {B : Nat} {k : Nat} {o : Obj} (hb : Below a.heap.size a b) (hk : k < a.heap.size) (h : a.heap[k]? = some o) (_ : B = B) : b.heap[k]? = some o := (hb.block k hk).trans h

set_option maxRecDepth 100000 in
set_option maxHeartbeats 2000000 in
theorem joined_is {w : World} {a b : Nat} {fa fb : List FX} {ka kb : List Nat} (x : FX) (ha : NodeAt w a fa ka) (hb : NodeAt w b fb kb) (na : fa.length ≤ 64) (nb : fb.length ≤ 64) (ma : ka.length ≤ 65) (mb : kb.length ≤ 65) :
    Calls Try.prog 59 #[.pointer (some ⟨a, 0, none⟩), .agg #[.string x.f.path, .int .i64 x.f.ver, .pointer x.q], .pointer (some ⟨b, 0, none⟩)] w (MadeN (fa ++ x :: fb) (ka ++ kb) w) := by
  have hal := ha.lt
  have hbl := hb.lt
  obtain ⟨A1, c1, A2, c2, oa, ha1, ha2, ra1, ra2⟩ := ha
  obtain ⟨B1, d1, B2, d2, ob, hb1, hb2, rb1, rb2⟩ := hb
  obtain ⟨p1, ep1⟩ : ∃ n, n = fa.length := ⟨_, rfl⟩
  obtain ⟨p2, ep2⟩ : ∃ n, n = ka.length := ⟨_, rfl⟩
  obtain ⟨q1, eq1⟩ : ∃ n, n = fb.length := ⟨_, rfl⟩
  obtain ⟨q2, eq2⟩ : ∃ n, n = kb.length := ⟨_, rfl⟩
  rw [← ep1, ← ep2] at oa
  rw [← eq1, ← eq2] at ob
  have HC := Lib.hid fun (W : World) (hW : Below w.heap.size w W) => show W.cell? ⟨a, 0, none⟩ = some (.slice A1 p1 c1) ∧ W.cell? ⟨a, 1, none⟩ = some (.slice A2 p2 c2) ∧ W.cell? ⟨b, 0, none⟩ = some (.slice B1 q1 d1) ∧ W.cell? ⟨b, 1, none⟩ = some (.slice B2 q2 d2) from
    ⟨(hW.cell (p := ⟨a, 0, none⟩) hal).trans (obj_cell oa 0), (hW.cell (p := ⟨a, 1, none⟩) hal).trans (obj_cell oa 1), (hW.cell (p := ⟨b, 0, none⟩) hbl).trans (obj_cell ob 0), (hW.cell (p := ⟨b, 1, none⟩) hbl).trans (obj_cell ob 1)⟩
  obtain ⟨WB, eWB⟩ : ∃ W, W = w.alloc (.cells #[.string x.f.path, .int .i64 x.f.ver, .pointer x.q] 68) := ⟨_, rfl⟩
  have hwb : Below w.heap.size w WB := by rw [eWB]; exact (Below.refl _ w).alloc (Nat.le_refl _) _
  have obx : WB.heap[w.heap.size]? = some (.cells #[.string x.f.path, .int .i64 x.f.ver, .pointer x.q] 68) := by rw [eWB]; exact heap_alloc_new w _
  have hsz : WB.heap.size = w.heap.size + 1 := by rw [eWB]; simp
  have hsl : w.heap.size < WB.heap.size := by omega
  have HX := Lib.hid fun (W : World) (hW : Below WB.heap.size WB W) => show W.cell? ⟨a, 0, none⟩ = some (.slice A1 p1 c1) ∧ W.cell? ⟨a, 1, none⟩ = some (.slice A2 p2 c2) ∧ W.cell? ⟨b, 0, none⟩ = some (.slice B1 q1 d1) ∧ W.cell? ⟨b, 1, none⟩ = some (.slice B2 q2 d2) ∧ W.cell? ⟨w.heap.size, 0, none⟩ = some (.string x.f.path) ∧ W.cell? ⟨w.heap.size, 1, none⟩ = some (.int .i64 x.f.ver) ∧ W.cell? ⟨w.heap.size, 2, none⟩ = some (.pointer x.q) from by
    have h1 := HC.out W (hwb.trans (hW.mono hwb.size))
    exact ⟨h1.1, h1.2.1, h1.2.2.1, h1.2.2.2, (hW.cell (p := ⟨w.heap.size, 0, none⟩) hsl).trans (obj_cell obx 0), (hW.cell (p := ⟨w.heap.size, 1, none⟩) hsl).trans (obj_cell obx 1), (hW.cell (p := ⟨w.heap.size, 2, none⟩) hsl).trans (obj_cell obx 2)⟩
  obtain ⟨f0, f1, f2, f3, f4, f5, f6⟩ := HX.out WB (Below.refl _ _)
  have HRB := Lib.hid (Below.refl WB.heap.size WB)
  have HC1 := Lib.hid fun (W : World) (g gx : Nat) (hW : Below WB.heap.size WB W) (k1 : W.heap[gx]? = some (.cells #[.string x.f.path, .int .i64 x.f.ver, .pointer x.q] 68)) (k2 : W.heap[g]? = some (.cells #[.slice A1 p1 c1, .slice (some ⟨gx, 0, none⟩) 1 1, .slice B1 q1 d1] 74)) => show Calls Try.prog 57 #[.slice (some ⟨g, 0, none⟩) 3 3] W (fun e w' => RowNew (p1 + 1 + q1) (xsV (fa ++ x :: fb)) W e w' ∧ Below WB.heap.size WB w') from by
    have hww := hwb.trans (hW.mono hwb.size)
    have hc1 := concat3 (xs := fa) (ys := [x]) (zs := fb) (obj_cell k2 0) (obj_cell k2 1) (obj_cell k2 2) (ra1.below hww) (raw_one k1) (rb1.below hww) ep1 rfl eq1 (by omega) (by omega) (by omega)
    rw [List.append_assoc, List.singleton_append] at hc1
    exact hc1.mono fun e w' h => ⟨h, by
      obtain ⟨_, _, _, _, _, hb⟩ := h
      exact hW.trans (hb.mono hW.size)⟩
  have HC2 := Lib.hid fun (V W : World) (g : Nat) (hV : Below WB.heap.size WB V) (hVW : Below V.heap.size V W) (hg : W.heap[g]? = some (.cells #[.slice A2 p2 c2, .slice B2 q2 d2] 75)) => show Calls Try.prog 71 #[.slice (some ⟨g, 0, none⟩) 2 2] W (fun e w' => RowNew (p2 + q2) (ksV (ka ++ kb)) W e w' ∧ Below V.heap.size V w') from by
    have hW := hwb.trans ((hV.trans (hVW.mono hV.size)).mono hwb.size)
    exact (concat2 (obj_cell hg 0) (obj_cell hg 1) (ra2.below hW) (rb2.below hW) ep2 eq2 (by omega) (by omega)).mono fun e w' h => ⟨h, by
      obtain ⟨_, _, _, _, _, hb⟩ := h
      exact hVW.trans (hb.mono hVW.size)⟩
  have HWB := Lib.hid hwb
  have HLEN1 := Lib.hid (show (fa ++ x :: fb).length = p1 + 1 + q1 by rw [List.length_append, List.length_cons]; omega)
  have HLEN2 := Lib.hid (show (ka ++ kb).length = p2 + q2 by rw [List.length_append]; omega)
  obtain ⟨f0, f1, f2, f3, f4, f5, f6⟩ := HX.out WB (Below.refl _ _)
  clear HC oa ob hal hbl ep1 ep2 eq1 eq2 hwb ra1 ra2 rb1 rb2 ha1 ha2 hb1 hb2 hsz hsl obx na nb ma mb
  subst eWB
  go_enter Try.func59, Try.ntmps59
  go_wp2_with fail
  go_region_held3 (fun wx => wx.cell? ⟨a, 0, none⟩ = some (.slice A1 p1 c1) ∧ wx.cell? ⟨a, 1, none⟩ = some (.slice A2 p2 c2) ∧ wx.cell? ⟨b, 0, none⟩ = some (.slice B1 q1 d1) ∧ wx.cell? ⟨b, 1, none⟩ = some (.slice B2 q2 d2) ∧ wx.cell? ⟨w.heap.size, 0, none⟩ = some (.string x.f.path) ∧ wx.cell? ⟨w.heap.size, 1, none⟩ = some (.int .i64 x.f.ver) ∧ wx.cell? ⟨w.heap.size, 2, none⟩ = some (.pointer x.q))
    (first | assumption | exact ⟨f0, f1, f2, f3, f4, f5, f6⟩ | exact HX.out _ HB1.out | exact HX.out _ HB2.out | exact HX.out _ (Below.alloc HB1.out HB1.out.size _) | exact HX.out _ (Below.alloc HB2.out HB2.out.size _) | (refine HX.out _ ?_; (first | with_reducible exact dl0 _ | with_reducible exact dl1 _ _ | with_reducible exact dl2 _ _ _ | with_reducible exact dl3 _ _ _ _ | with_reducible exact bl1 _ _ | with_reducible exact bl2 _ _ _ | with_reducible exact bl3 _ _ _ _)))
    (first
      | (go_at_call 57; (with_reducible refine (HC1.out _ _ _ (dl2 _ _ _) (h3_1 _ _ _ _) (h3_2 _ _ _ _)).mono ?_); rintro e w1 ⟨⟨X, cx, rfl, hcx, hX, hb1⟩, hb1'⟩; have HB1 := Lib.hid hb1'; have HX1 := Lib.hid (And.intro hcx hX); clear hcx hX hb1 hb1')
      | (go_at_call 57; (with_reducible refine (HC1.out _ _ _ (dl3 _ _ _ _) (h4_1 _ _ _ _ _) (h4_2 _ _ _ _ _)).mono ?_); rintro e w1 ⟨⟨X, cx, rfl, hcx, hX, hb1⟩, hb1'⟩; have HG1 := Lib.hid (later (B := 0) hb1 (z4_3 _ _ _ _ _) (h4_3 _ _ _ _ _) rfl); have HB1 := Lib.hid hb1'; have HX1 := Lib.hid (And.intro hcx hX); clear hcx hX hb1 hb1')
      | (go_at_call 57; (with_reducible refine (HC1.out _ _ _ (dl3 _ _ _ _) (h4_1 _ _ _ _ _) (h4_3 _ _ _ _ _)).mono ?_); rintro e w1 ⟨⟨X, cx, rfl, hcx, hX, hb1⟩, hb1'⟩; have HG1 := Lib.hid (later (B := 0) hb1 (z4_2 _ _ _ _ _) (h4_2 _ _ _ _ _) rfl); have HB1 := Lib.hid hb1'; have HX1 := Lib.hid (And.intro hcx hX); clear hcx hX hb1 hb1')
      | (go_at_call 57; (with_reducible refine (HC1.out _ _ _ (dl3 _ _ _ _) (h4_2 _ _ _ _ _) (h4_3 _ _ _ _ _)).mono ?_); rintro e w1 ⟨⟨X, cx, rfl, hcx, hX, hb1⟩, hb1'⟩; have HG1 := Lib.hid (later (B := 0) hb1 (z4_1 _ _ _ _ _) (h4_1 _ _ _ _ _) rfl); have HB1 := Lib.hid hb1'; have HX1 := Lib.hid (And.intro hcx hX); clear hcx hX hb1 hb1')
      | (go_at_call 71; (with_reducible refine (HC2.out _ _ _ HB1.out (Below.refl _ _) HG1.out).mono ?_); rintro e w2 ⟨⟨Y, cy, rfl, hcy, hY, _⟩, hb2⟩; have HB2 := Lib.hid (HB1.out.trans (hb2.mono HB1.out.size)); have HX2 := Lib.hid (HX1.out.2.below hb2); have HY2 := Lib.hid (And.intro hcy hY); clear hcy hY hb2)
      | (go_at_call 71; (with_reducible refine (HC2.out _ _ _ HB1.out (bl1 _ _) (heap_alloc_new _ _)).mono ?_); rintro e w2 ⟨⟨Y, cy, rfl, hcy, hY, _⟩, hb2⟩; have HB2 := Lib.hid (HB1.out.trans (hb2.mono HB1.out.size)); have HX2 := Lib.hid (HX1.out.2.below hb2); have HY2 := Lib.hid (And.intro hcy hY); clear hcy hY hb2))
  all_goals go_wp2_with fail
  all_goals
    go_ret
    have hbw := HWB.out.trans (HB2.out.mono HWB.out.size)
    have hb3 := hbw.alloc hbw.size (.cells #[.slice X (p1 + 1 + q1) cx, .slice Y (p2 + q2) cy] 77)
    have hn2 := (Below.refl w2.heap.size w2).alloc (Nat.le_refl _) (.cells #[.slice X (p1 + 1 + q1) cx, .slice Y (p2 + q2) cy] 77)
    refine ⟨_, rfl, ⟨X, cx, Y, cy, ?_, ?_, ?_, HX2.out.below hn2, HY2.out.2.below hn2⟩, hb3⟩
    · rw [HLEN1.out, HLEN2.out]
      exact heap_alloc_new w2 _
    · rw [HLEN1.out]
      exact HX1.out.1
    · rw [HLEN2.out]
      exact HY2.out.1
end Go.Proofs.Ytcjbhjbjkfgphaa

/-
  The program's Set, of any tree of its own: the file put in. Condition: the path is one, and there is room.
  The program's Set of what is no path, and its Drop, of any tree of its own. Condition: no text is longer than 2^48 bytes.
-/
import Derived.Test.YtcjbhjbjkfgphaaNright
namespace Go.Proofs.Ytcjbhjbjkfgphaa
open Go.RowKit Go.Deep

theorem l5_1 (w : World) (a b c d e : Obj) : (((((w.alloc a).alloc b).alloc c).alloc d).alloc e).heap[w.heap.size + 1]? = some b := by
  rw [Below.heap_alloc _ e _ (by simp only [World.size_alloc]; omega)]
  rw [Below.heap_alloc _ d _ (by simp only [World.size_alloc]; omega)]
  rw [Below.heap_alloc _ c _ (by simp only [World.size_alloc]; omega)]
  have h := heap_alloc_new (w.alloc a) b
  simp only [World.size_alloc] at h
  exact h
theorem l5_2 (w : World) (a b c d e : Obj) : (((((w.alloc a).alloc b).alloc c).alloc d).alloc e).heap[w.heap.size + 1 + 1]? = some c := by
  rw [Below.heap_alloc _ e _ (by simp only [World.size_alloc]; omega)]
  rw [Below.heap_alloc _ d _ (by simp only [World.size_alloc]; omega)]
  have h := heap_alloc_new ((w.alloc a).alloc b) c
  simp only [World.size_alloc] at h
  exact h
theorem l5_3 (w : World) (a b c d e : Obj) : (((((w.alloc a).alloc b).alloc c).alloc d).alloc e).heap[w.heap.size + 1 + 1 + 1]? = some d := by
  rw [Below.heap_alloc _ e _ (by simp only [World.size_alloc]; omega)]
  have h := heap_alloc_new (((w.alloc a).alloc b).alloc c) d
  simp only [World.size_alloc] at h
  exact h
theorem l5_4 (w : World) (a b c d e : Obj) : (((((w.alloc a).alloc b).alloc c).alloc d).alloc e).heap[w.heap.size + 1 + 1 + 1 + 1]? = some e := by
  have h := heap_alloc_new ((((w.alloc a).alloc b).alloc c).alloc d) e
  simp only [World.size_alloc] at h
  exact h
theorem put_empty (x : FX) : PutX [] x [x] := ⟨[], [], [], rfl, rfl, (fun _ h => by cases h), (fun _ h => by cases h), .inl rfl⟩
theorem bl5 (W : World) (a b c d e : Obj) : Below W.heap.size W (((((W.alloc a).alloc b).alloc c).alloc d).alloc e) := ((bl3 W a b c).alloc (by simp; omega) d).alloc (by simp; omega) e
def WithRoot (xs : List FX) (x : FX) (w : World) (e : Ending) (w' : World) : Prop := ∃ (h : Nat) (t : NT h) (b : Nat), e = .returned (.pointer (some ⟨b, 0, none⟩)) ∧ IsN w' h t b ∧ (∀ lo hi, lo ≤ (NT.files h t).length → (NT.files h t).length ≤ hi → NT.ok lo hi h t) ∧ 1 ≤ (NT.files h t).length ∧ (NT.files h t).length ≤ 3 ∧ PutX xs x (NT.flat h t) ∧ Below w.heap.size w w'
set_option maxRecDepth 100000 in
set_option maxHeartbeats 2000000 in
theorem with_nil (x : FX) (w : World) : Calls Try.prog 29 #[.pointer none, .agg #[.string x.f.path, .int .i64 x.f.ver, .pointer x.q]] w (WithRoot [] x w) := by
  have h1 := bl3 w (.cells #[.string x.f.path, .int .i64 x.f.ver, .pointer x.q] 68) (.cells #[.string x.f.path, .int .i64 x.f.ver, .pointer x.q] 68) (.cells #[.slice (some ⟨w.heap.size + 1, 0, none⟩) 1 1, .slice none 0 0] 77)
  have o1 : (((w.alloc (.cells #[.string x.f.path, .int .i64 x.f.ver, .pointer x.q] 68)).alloc (.cells #[.string x.f.path, .int .i64 x.f.ver, .pointer x.q] 68)).alloc (.cells #[.slice (some ⟨w.heap.size + 1, 0, none⟩) 1 1, .slice none 0 0] 77)).heap[w.heap.size + 1]? = some (.cells #[.string x.f.path, .int .i64 x.f.ver, .pointer x.q] 68) := h3_1 w _ _ _
  have o2 : (((w.alloc (.cells #[.string x.f.path, .int .i64 x.f.ver, .pointer x.q] 68)).alloc (.cells #[.string x.f.path, .int .i64 x.f.ver, .pointer x.q] 68)).alloc (.cells #[.slice (some ⟨w.heap.size + 1, 0, none⟩) 1 1, .slice none 0 0] 77)).heap[w.heap.size + 1 + 1]? = some (.cells #[.slice (some ⟨w.heap.size + 1, 0, none⟩) 1 1, .slice none 0 0] 77) := h3_2 w _ _ _
  have H1 := Lib.hid h1
  have HO := Lib.hid (And.intro o1 o2)
  clear h1 o1 o2
  go_enter Try.func29, Try.ntmps29
  go_wp2_with fail
  go_ret
  exact ⟨0, [x], _, rfl, ⟨_, 1, none, 0, HO.out.2, Nat.le_refl _, Nat.le_refl _, raw_one HO.out.1, RawAt.nil _ _⟩, fun _ _ h1 h2 => ⟨h1, h2⟩, Nat.le_refl _, by simp [NT.files], put_empty x, H1.out⟩
theorem with_root (x : FX) {w : World} {r : Option Addr} {xs : List FX} (hr : RootIs w r xs) (hx : RisingX xs) : Calls Try.prog 29 #[.pointer r, .agg #[.string x.f.path, .int .i64 x.f.ver, .pointer x.q]] w (WithRoot xs x w) := by
  rcases hr with ⟨rfl, rfl⟩ | ⟨h, t, b, rfl, h1, h2, rfl⟩
  · exact with_nil x w
  · refine (with_is x h t b w h1 h2 hx).mono ?_
    rintro e w' ⟨r, b', rfl, k1, k2, k3, k4, k5, k6⟩
    have := h2.len
    exact ⟨h, r, b', rfl, k1, k5, by omega, by omega, k2, k6⟩
set_option maxRecDepth 100000 in
set_option maxHeartbeats 1000000 in
theorem clone_text (s : ByteArray) (w : World) (hs : s.size ≤ 281474976710656) : Calls Try.prog 26 #[.string s] w (Answers (.string s) w) := by
  have HC := Lib.hid (Try.stringslite_Clone s w hs)
  clear hs
  go_enter Try.func26, Try.ntmps26
  go_wp2_with fail
  go_at_call 39
  (with_reducible refine HC.out.mono ?_)
  rintro e w1 ⟨rfl, hb⟩
  have HB := Lib.hid hb
  clear hb
  go_wp2_with fail
  go_ret
  exact ⟨rfl, HB.out⟩
theorem Good.put {w : World} {xs ys : List FX} {x : FX} {l : List UInt8} (hg : Good w xs) (hp : PutX xs x ys) (hr : RightP x.f.path) (hn : ys.length ≤ 1024) (hl : RopeIs w x.q l) (ht : x.f.text = txt l) (hv : (Lit.int .i64 x.f.ver).wf = true) : Good w ys where
  rise := hp.rising hg.rise
  right := fun y hy => (hp.mem y hy).elim (fun e => e ▸ hr) (hg.right y)
  few := hn
  ropes := fun y hy => (hp.mem y hy).elim (fun e => e ▸ ⟨l, hl, ht⟩) (hg.ropes y)
  vers := fun y hy => (hp.mem y hy).elim (fun e => e ▸ hv) (hg.vers y)
theorem put_len_in {xs ys : List FX} {x y : FX} (hp : PutX xs x ys) (hy : y ∈ xs) (he : y.f.path = x.f.path) : ys.length = xs.length := by
  obtain ⟨a, m, b, rfl, rfl, h1, h2, rfl | ⟨o, rfl, _⟩⟩ := hp
  · simp only [List.nil_append] at hy
    rcases List.mem_append.1 hy with hy | hy
    · have := h1 y hy
      rw [he, pless_irrefl] at this
      cases this
    · have := h2 y hy
      rw [he, pless_irrefl] at this
      cases this
  · simp
theorem put_len_out {xs ys : List FX} {x : FX} (hp : PutX xs x ys) (hn : ∀ y ∈ xs, y.f.path ≠ x.f.path) : ys.length = xs.length + 1 := by
  obtain ⟨a, m, b, rfl, rfl, h1, h2, rfl | ⟨o, rfl, ho⟩⟩ := hp
  · simp
    omega
  · exact absurd ho (hn o (by simp))
theorem drop_out {xs : List FX} {s : ByteArray} (hn : ∀ y ∈ xs, y.f.path ≠ s) : (dropF (xs.map (·.f)) s).length = xs.length := by
  rw [dropF_none (findF_none.2 fun f hf => by
    obtain ⟨y, hy, rfl⟩ := List.mem_map.1 hf
    exact hn y hy), List.length_map]
theorem right_size {s : ByteArray} (h : RightP s) : s.size ≤ 281474976710656 := by
  have := h.2.1
  omega

set_option maxRecDepth 100000 in
set_option maxHeartbeats 4000000 in
theorem tree_set {w : World} {p : Option Addr} {fs : List FileM} {q : Option Addr} {l : List UInt8} (s : ByteArray) (v : Int) (t : ByteArray) (h : TreeIs w p fs) (hq : RopeIs w q l) (htx : t = txt l) (hs : RightP s) (hroom : (dropF fs s).length < 1024) (hv : (Lit.int .i64 v).wf = true) :
    Calls Try.prog 10 #[.pointer p, .string s, .int .i64 v, .pointer q] w (TreeMade TreeIs (putF fs ⟨s, v, t⟩) w) := by
  obtain ⟨xs, r, rfl, hg, hr, ht⟩ := h.top
  have HR := Lib.hid (tree_right s w (right_size hs))
  rw [decide_eq_true hs] at HR
  obtain ⟨x, ex⟩ : ∃ x : FX, x = ⟨⟨s, v, t⟩, q⟩ := ⟨_, rfl⟩
  have hxs : x.f.path = s := by rw [ex]
  have hxv : x.f.ver = v := by rw [ex]
  have hxq : x.q = q := by rw [ex]
  obtain ⟨n, en⟩ : ∃ n, n = xs.length := ⟨_, rfl⟩
  rw [← en] at ht
  have HG := Lib.hid hg
  have HRO := Lib.hid hr
  have HTOP := Lib.hid ht
  have EN := Lib.hid en
  have EX := Lib.hid (And.intro ex (And.intro hxs (And.intro hxv hxq)))
  have HQ := Lib.hid (And.intro hq (And.intro htx (And.intro hs (And.intro hroom hv))))
  have hn4 : n ≤ 1024 := by rw [en]; exact hg.few
  have HN4 := Lib.hid hn4
  clear hg hr ht h hq htx hs hroom hv ex hxs hxv hxq en hn4
  go_enter Try.func10, Try.ntmps10
  go_wp2_with fail
  go_at_call 14
  (with_reducible refine HR.out.mono ?_)
  rintro e w1 ⟨rfl, hb1⟩
  have HB1 := Lib.hid hb1
  have HLEN := Lib.hid (len_top (HTOP.out.below hb1))
  have HF := Lib.hid (find_is s (HTOP.out.below hb1) (HRO.out.below hb1) HG.out.rise)
  clear hb1
  go_wp2_with fail
  go_at_call 20
  (with_reducible refine HLEN.out.mono ?_)
  rintro e w1' ⟨rfl, rfl⟩
  go_wp2_with fail
  go_at_call 27
  (with_reducible refine HF.out.mono ?_)
  rintro e w2 (⟨x0, hx0, hx0s, rfl, hb2⟩ | ⟨hno, rfl, hb2⟩)
  · have HB2 := Lib.hid (HB1.out.trans (hb2.mono HB1.out.size))
    have HX0 := Lib.hid (And.intro hx0 hx0s)
    obtain ⟨sz, esz⟩ : ∃ sz, sz = n := ⟨_, rfl⟩
    have hsz : ∀ {ys : List FX}, PutX xs x ys → ys.length = sz := fun hp => by rw [put_len_in hp HX0.out.1 (by rw [HX0.out.2, EX.out.2.1]), esz, EN.out]
    have hsz2 : sz ≤ 1024 := by rw [esz]; exact HN4.out
    subst esz
    have gs : decide (1024 < (sz : Int)) = false := by simp; omega
    have gsn : decide (1024 < sz) = false := by simp; omega
    clear hb2 hx0 hx0s
    have HW3 := Lib.hid (HB2.out.trans ((bl1 w2 (.cells #[.string x0.f.path, .int .i64 x0.f.ver, .pointer x0.q] 68)).mono HB2.out.size))
    have HTOP3 := Lib.hid (top_is (HTOP.out.below HW3.out))
    have HCL := Lib.hid (clone_text s (w2.alloc (.cells #[.string x0.f.path, .int .i64 x0.f.ver, .pointer x0.q] 68)) (right_size HQ.out.2.2.1))
    go_wp2_with fail
    go_at_call 28
    (with_reducible refine HTOP3.out.mono ?_)
    rintro e w3 ⟨rfl, rfl⟩
    go_wp2_with fail
    go_at_call 26
    (with_reducible refine HCL.out.mono ?_)
    rintro e w4 ⟨rfl, hb4⟩
    have HW4 := Lib.hid (HW3.out.trans (hb4.mono HW3.out.size))
    have hwr := with_root x (HRO.out.below HW4.out) HG.out.rise
    rw [EX.out.2.1, EX.out.2.2.1, EX.out.2.2.2] at hwr
    have HWR := Lib.hid hwr
    clear hb4 hwr
    go_wp2_with fail
    go_at_call 29
    (with_reducible refine HWR.out.mono ?_)
    rintro e w5 ⟨h, t', b, rfl, hn, hok, hl1, hl3, hput, hb5⟩
    have HW5 := Lib.hid (HW4.out.trans (hb5.mono HW4.out.size))
    obtain ⟨ad, hnode, hka, _⟩ := IsN.node hn (hok 1 3 hl1 hl3)
    obtain ⟨B1, d1, hB0, _, _, _⟩ := hnode.file
    obtain ⟨m, em⟩ : ∃ m, m = (NT.files h t').length := ⟨_, rfl⟩
    rw [← em] at hB0
    have z0 := hB0 w5 (Below.refl _ _)
    have hlen : (NT.flat h t').length = sz := hsz hput
    have HGOOD := Lib.hid fun (W : World) (hW : Below w.heap.size w W) => Good.put (x := x) (l := l) (HG.out.below hW) hput (by rw [EX.out.2.1]; exact HQ.out.2.2.1) (by rw [hlen]; exact hsz2) (by rw [EX.out.2.2.2]; exact HQ.out.1.below hW) (by rw [EX.out.1]; exact HQ.out.2.1) (by rw [EX.out.2.2.1]; exact HQ.out.2.2.2.2)
    have HPUT := Lib.hid (show putF (xs.map (·.f)) ⟨s, v, t⟩ = (NT.flat h t').map (·.f) from by rw [hput.is, EX.out.1])
    have HLEN2 := Lib.hid hlen
    have HN := Lib.hid hn
    have HM := Lib.hid em
    have HL := Lib.hid (And.intro hl1 hl3)
    have HOKT := Lib.hid hok
    by_cases hm2 : m ≤ 2
    · have g2 : decide (2 < (m : Int)) = false := by simp; omega
      have g2n : decide (2 < m) = false := by simp; omega
      have HT2 := Lib.hid (hok 1 2 hl1 (by rw [← em]; exact hm2))
      clear hn hok hl1 hl3 hput hb5 hnode hka hB0 em hlen hm2
      go_wp2_with fail
      go_ret2
      have hbz := bl1 w5 (.cells #[.pointer (some ⟨b, 0, none⟩), .int .i64 (sz : Int)] 81)
      have hwz := HW5.out.trans (hbz.mono HW5.out.size)
      refine ⟨_, rfl, ⟨NT.flat h t', _, HPUT.out, HGOOD.out _ hwz, .inr ⟨h, t', b, rfl, HN.out.below hbz, HT2.out, rfl⟩, .inr ⟨_, rfl, ?_⟩⟩, hwz⟩
      rw [HLEN2.out]
      exact heap_alloc_new w5 _
    · have g2 : decide (2 < (m : Int)) = true := by simp; omega
      have g2n : decide (2 < m) = true := by simp; omega
      obtain ⟨y0, y1, y2, ad2, hn3, hk3, ta, tb, hfl, ota, otb, hmk⟩ := NT.halves hn (hok 3 3 (by rw [← em]; omega) hl3)
      have HH := Lib.hid (halves_are hn3 hk3)
      have HMK := Lib.hid hmk
      have HFL := Lib.hid (And.intro hfl (And.intro ota otb))
      clear hn hok hl1 hl3 hput hb5 hnode hka hB0 em hlen hm2 hn3 hk3 hfl ota otb hmk
      go_wp2_with fail
      go_at_call 30
      (with_reducible refine HH.out.mono ?_)
      rintro e w6 ⟨a, b2, rfl, ha, hb2', hb6⟩
      have HAB := Lib.hid (And.intro ha hb2')
      have HB6 := Lib.hid hb6
      clear ha hb2' hb6
      go_wp2_with fail
      go_ret2
      have hz := bl5 w6 (.cells #[.string y1.f.path, .int .i64 y1.f.ver, .pointer y1.q] 68) (.cells #[.string y1.f.path, .int .i64 y1.f.ver, .pointer y1.q] 68) (.cells #[.pointer (some ⟨a, 0, none⟩), .pointer (some ⟨b2, 0, none⟩)] 71) (.cells #[.slice (some ⟨w6.heap.size + 1, 0, none⟩) 1 1, .slice (some ⟨w6.heap.size + 1 + 1, 0, none⟩) 2 2] 77) (.cells #[.pointer (some ⟨w6.heap.size + 1 + 1 + 1, 0, none⟩), .int .i64 (sz : Int)] 81)
      have h5z := HB6.out.trans (hz.mono HB6.out.size)
      have hwz := HW5.out.trans (h5z.mono HW5.out.size)
      obtain ⟨k1, k2⟩ := HMK.out _ _ _ h5z (HAB.out.1.below hz) (HAB.out.2.below hz)
      have hkids := (KidsAre.one k1).append (KidsAre.one k2)
      refine ⟨_, rfl, ⟨NT.flat h t', some ⟨w6.heap.size + 1 + 1 + 1, 0, none⟩, HPUT.out, HGOOD.out _ hwz, .inr ⟨h + 1, ([y1], [ta, tb]), _, rfl, ⟨[a, b2], ⟨some ⟨w6.heap.size + 1, 0, none⟩, 1, some ⟨w6.heap.size + 1 + 1, 0, none⟩, 2, l5_3 w6 _ _ _ _ _, Nat.le_refl _, Nat.le_refl _, raw_one (l5_1 w6 _ _ _ _ _), raw_ks2 (l5_2 w6 _ _ _ _ _)⟩, rfl, hkids.2⟩, ⟨Nat.le_refl 1, by simp, rfl, ?_⟩, ?_⟩, .inr ⟨_, rfl, ?_⟩⟩, hwz⟩
      · intro k hk
        simp only [List.mem_cons, List.not_mem_nil, or_false] at hk
        rcases hk with rfl | rfl
        · exact HFL.out.2.1.to HFL.out.2.1.len.1 (Nat.le_trans HFL.out.2.1.len.2 (by omega))
        · exact HFL.out.2.2.to HFL.out.2.2.len.1 (Nat.le_trans HFL.out.2.2.len.2 (by omega))
      · rw [HFL.out.1]
        simp [NT.flat, weave, tailF]
      · rw [HLEN2.out]
        exact l5_4 w6 _ _ _ _ _
  · have HB2 := Lib.hid (HB1.out.trans (hb2.mono HB1.out.size))
    obtain ⟨sz, esz⟩ : ∃ sz, sz = n + 1 := ⟨_, rfl⟩
    have hsz : ∀ {ys : List FX}, PutX xs x ys → ys.length = sz := fun hp => by rw [put_len_out hp (by rw [EX.out.2.1]; exact hno), esz, EN.out]
    have hsz2 : sz ≤ 1024 := by
      have h1 := HQ.out.2.2.2.1
      rw [drop_out hno, ← EN.out] at h1
      omega
    have qs : IntKind.i64.wrap ((n : Int) + 1) = (sz : Int) := by rw [show (n : Int) + 1 = (sz : Int) by omega]; exact IntWalk.i64_in _ (by omega)
    have gs : decide (1024 < (sz : Int)) = false := by simp; omega
    have gsn : decide (1024 < sz) = false := by simp; omega
    clear hb2 esz
    have HW3 := Lib.hid (HB2.out.trans ((bl1 w2 (.cells #[.string ⟨#[]⟩, .int .i64 0, .pointer none] 68)).mono HB2.out.size))
    have HTOP3 := Lib.hid (top_is (HTOP.out.below HW3.out))
    have HCL := Lib.hid (clone_text s (w2.alloc (.cells #[.string ⟨#[]⟩, .int .i64 0, .pointer none] 68)) (right_size HQ.out.2.2.1))
    go_wp2_with fail
    go_at_call 28
    (with_reducible refine HTOP3.out.mono ?_)
    rintro e w3 ⟨rfl, rfl⟩
    go_wp2_with fail
    go_at_call 26
    (with_reducible refine HCL.out.mono ?_)
    rintro e w4 ⟨rfl, hb4⟩
    have HW4 := Lib.hid (HW3.out.trans (hb4.mono HW3.out.size))
    have hwr := with_root x (HRO.out.below HW4.out) HG.out.rise
    rw [EX.out.2.1, EX.out.2.2.1, EX.out.2.2.2] at hwr
    have HWR := Lib.hid hwr
    clear hb4 hwr
    go_wp2_with fail
    go_at_call 29
    (with_reducible refine HWR.out.mono ?_)
    rintro e w5 ⟨h, t', b, rfl, hn, hok, hl1, hl3, hput, hb5⟩
    have HW5 := Lib.hid (HW4.out.trans (hb5.mono HW4.out.size))
    obtain ⟨ad, hnode, hka, _⟩ := IsN.node hn (hok 1 3 hl1 hl3)
    obtain ⟨B1, d1, hB0, _, _, _⟩ := hnode.file
    obtain ⟨m, em⟩ : ∃ m, m = (NT.files h t').length := ⟨_, rfl⟩
    rw [← em] at hB0
    have z0 := hB0 w5 (Below.refl _ _)
    have hlen : (NT.flat h t').length = sz := hsz hput
    have HGOOD := Lib.hid fun (W : World) (hW : Below w.heap.size w W) => Good.put (x := x) (l := l) (HG.out.below hW) hput (by rw [EX.out.2.1]; exact HQ.out.2.2.1) (by rw [hlen]; exact hsz2) (by rw [EX.out.2.2.2]; exact HQ.out.1.below hW) (by rw [EX.out.1]; exact HQ.out.2.1) (by rw [EX.out.2.2.1]; exact HQ.out.2.2.2.2)
    have HPUT := Lib.hid (show putF (xs.map (·.f)) ⟨s, v, t⟩ = (NT.flat h t').map (·.f) from by rw [hput.is, EX.out.1])
    have HLEN2 := Lib.hid hlen
    have HN := Lib.hid hn
    have HM := Lib.hid em
    have HL := Lib.hid (And.intro hl1 hl3)
    have HOKT := Lib.hid hok
    by_cases hm2 : m ≤ 2
    · have g2 : decide (2 < (m : Int)) = false := by simp; omega
      have g2n : decide (2 < m) = false := by simp; omega
      have HT2 := Lib.hid (hok 1 2 hl1 (by rw [← em]; exact hm2))
      clear hn hok hl1 hl3 hput hb5 hnode hka hB0 em hlen hm2
      go_wp2_with fail
      go_ret2
      have hbz := bl1 w5 (.cells #[.pointer (some ⟨b, 0, none⟩), .int .i64 (sz : Int)] 81)
      have hwz := HW5.out.trans (hbz.mono HW5.out.size)
      refine ⟨_, rfl, ⟨NT.flat h t', _, HPUT.out, HGOOD.out _ hwz, .inr ⟨h, t', b, rfl, HN.out.below hbz, HT2.out, rfl⟩, .inr ⟨_, rfl, ?_⟩⟩, hwz⟩
      rw [HLEN2.out]
      exact heap_alloc_new w5 _
    · have g2 : decide (2 < (m : Int)) = true := by simp; omega
      have g2n : decide (2 < m) = true := by simp; omega
      obtain ⟨y0, y1, y2, ad2, hn3, hk3, ta, tb, hfl, ota, otb, hmk⟩ := NT.halves hn (hok 3 3 (by rw [← em]; omega) hl3)
      have HH := Lib.hid (halves_are hn3 hk3)
      have HMK := Lib.hid hmk
      have HFL := Lib.hid (And.intro hfl (And.intro ota otb))
      clear hn hok hl1 hl3 hput hb5 hnode hka hB0 em hlen hm2 hn3 hk3 hfl ota otb hmk
      go_wp2_with fail
      go_at_call 30
      (with_reducible refine HH.out.mono ?_)
      rintro e w6 ⟨a, b2, rfl, ha, hb2', hb6⟩
      have HAB := Lib.hid (And.intro ha hb2')
      have HB6 := Lib.hid hb6
      clear ha hb2' hb6
      go_wp2_with fail
      go_ret2
      have hz := bl5 w6 (.cells #[.string y1.f.path, .int .i64 y1.f.ver, .pointer y1.q] 68) (.cells #[.string y1.f.path, .int .i64 y1.f.ver, .pointer y1.q] 68) (.cells #[.pointer (some ⟨a, 0, none⟩), .pointer (some ⟨b2, 0, none⟩)] 71) (.cells #[.slice (some ⟨w6.heap.size + 1, 0, none⟩) 1 1, .slice (some ⟨w6.heap.size + 1 + 1, 0, none⟩) 2 2] 77) (.cells #[.pointer (some ⟨w6.heap.size + 1 + 1 + 1, 0, none⟩), .int .i64 (sz : Int)] 81)
      have h5z := HB6.out.trans (hz.mono HB6.out.size)
      have hwz := HW5.out.trans (h5z.mono HW5.out.size)
      obtain ⟨k1, k2⟩ := HMK.out _ _ _ h5z (HAB.out.1.below hz) (HAB.out.2.below hz)
      have hkids := (KidsAre.one k1).append (KidsAre.one k2)
      refine ⟨_, rfl, ⟨NT.flat h t', some ⟨w6.heap.size + 1 + 1 + 1, 0, none⟩, HPUT.out, HGOOD.out _ hwz, .inr ⟨h + 1, ([y1], [ta, tb]), _, rfl, ⟨[a, b2], ⟨some ⟨w6.heap.size + 1, 0, none⟩, 1, some ⟨w6.heap.size + 1 + 1, 0, none⟩, 2, l5_3 w6 _ _ _ _ _, Nat.le_refl _, Nat.le_refl _, raw_one (l5_1 w6 _ _ _ _ _), raw_ks2 (l5_2 w6 _ _ _ _ _)⟩, rfl, hkids.2⟩, ⟨Nat.le_refl 1, by simp, rfl, ?_⟩, ?_⟩, .inr ⟨_, rfl, ?_⟩⟩, hwz⟩
      · intro k hk
        simp only [List.mem_cons, List.not_mem_nil, or_false] at hk
        rcases hk with rfl | rfl
        · exact HFL.out.2.1.to HFL.out.2.1.len.1 (Nat.le_trans HFL.out.2.1.len.2 (by omega))
        · exact HFL.out.2.2.to HFL.out.2.2.len.1 (Nat.le_trans HFL.out.2.2.len.2 (by omega))
      · rw [HFL.out.1]
        simp [NT.flat, weave, tailF]
      · rw [HLEN2.out]
        exact l5_4 w6 _ _ _ _ _
end Go.Proofs.Ytcjbhjbjkfgphaa

namespace Go.Proofs.Ytcjbhjbjkfgphaa
open Go.RowKit Go.Deep

set_option maxRecDepth 100000 in
set_option maxHeartbeats 1000000 in
theorem tree_set_no {w : World} (p : Option Addr) (q : Option Addr) (s : ByteArray) (v : Int) (hs : ¬ RightP s) (hn : s.size ≤ 281474976710656) : Calls Try.prog 10 #[.pointer p, .string s, .int .i64 v, .pointer q] w (TreeErr 71 w) := by
  have hr := tree_right s w hn
  rw [decide_eq_false hs] at hr
  have HR := Lib.hid hr
  clear hr hs hn
  go_enter Try.func10, Try.ntmps10
  go_wp2_with fail
  go_at_call 14
  (with_reducible refine HR.out.mono ?_)
  rintro e w1 ⟨rfl, hb1⟩
  have HB1 := Lib.hid hb1
  clear hb1
  go_wp2_with fail
  go_ret2
  exact ⟨none, rfl, HB1.out⟩
theorem found_no {xs : List FX} {s : ByteArray} (h : findF (xs.map (·.f)) s = none) : ∀ x ∈ xs, x.f.path ≠ s := fun x hx => findF_none.1 h x.f (List.mem_map_of_mem hx)
theorem found_yes {xs : List FX} {s : ByteArray} (h : findF (xs.map (·.f)) s ≠ none) : ∃ x ∈ xs, x.f.path = s := by
  by_cases hx : ∃ x ∈ xs, x.f.path = s
  · exact hx
  · refine absurd (findF_none.2 fun f hf => ?_) h
    obtain ⟨x, hx', rfl⟩ := List.mem_map.1 hf
    exact fun e => hx ⟨x, hx', e⟩
set_option maxRecDepth 100000 in
set_option maxHeartbeats 1000000 in
theorem tree_drop_no {w : World} {p : Option Addr} {fs : List FileM} (s : ByteArray) (h : TreeIs w p fs) (hs : findF fs s = none) : Calls Try.prog 12 #[.pointer p, .string s] w (TreeErr 72 w) := by
  obtain ⟨xs, r, rfl, hg, hr, ht⟩ := h.top
  have HF := Lib.hid (find_is s ht hr hg.rise)
  have HNO := Lib.hid (found_no hs)
  clear hg hr ht h hs
  go_enter Try.func12, Try.ntmps12
  go_wp2_with fail
  go_at_call 27
  (with_reducible refine HF.out.mono ?_)
  rintro e w1 (⟨x, hx, hxs, rfl, hb⟩ | ⟨hno, rfl, hb⟩)
  · exact absurd hxs (HNO.out x hx)
  · have HB := Lib.hid (hb.trans ((bl1 w1 (.cells #[.string ⟨#[]⟩, .int .i64 0, .pointer none] 68)).mono hb.size))
    clear hno hb
    go_wp2_with fail
    go_ret2
    exact ⟨none, rfl, HB.out⟩
theorem Good.cut {w : World} {xs ys : List FX} {s : ByteArray} (hg : Good w xs) (hp : CutX xs s ys) : Good w ys where
  rise := hp.rising hg.rise
  right := fun y hy => hg.right y (hp.mem y hy)
  few := by have := hp.len; have := hg.few; omega
  ropes := fun y hy => hg.ropes y (hp.mem y hy)
  vers := fun y hy => hg.vers y (hp.mem y hy)

set_option maxRecDepth 100000 in
set_option maxHeartbeats 4000000 in
theorem tree_drop {w : World} {p : Option Addr} {fs : List FileM} (s : ByteArray) (h : TreeIs w p fs) (hs : findF fs s ≠ none) : Calls Try.prog 12 #[.pointer p, .string s] w (TreeMade TreeIs (dropF fs s) w) := by
  obtain ⟨xs, r, rfl, hg, hr, ht⟩ := h.top
  obtain ⟨x0, hx0, hx0s⟩ := found_yes hs
  obtain ⟨hh, t, b, rfl, hn, hok, rfl⟩ : ∃ (h : Nat) (t : NT h) (b : Nat), r = some ⟨b, 0, none⟩ ∧ IsN w h t b ∧ NT.ok 1 2 h t ∧ NT.flat h t = xs := by
    rcases hr with ⟨_, rfl⟩ | hr
    · cases hx0
    · exact hr
  obtain ⟨tb, rfl, htb⟩ : ∃ tb, p = some ⟨tb, 0, none⟩ ∧ w.heap[tb]? = some (.cells #[.pointer (some ⟨b, 0, none⟩), .int .i64 ((NT.flat hh t).length : Int)] 81) := by
    rcases ht with ⟨_, e, _⟩ | ht
    · cases e
    · exact ht
  have HF := Lib.hid (find_is s ht hr hg.rise)
  obtain ⟨n, en⟩ : ∃ n, n = (NT.flat hh t).length := ⟨_, rfl⟩
  obtain ⟨n1, en1⟩ : ∃ q, q = n - 1 := ⟨_, rfl⟩
  rw [← en] at htb
  have hn0 : 0 < n := by rw [en]; exact List.length_pos_of_mem hx0
  have hn4 : n ≤ 1024 := by rw [en]; exact hg.few
  have q1 : IntKind.i64.wrap ((n : Int) - 1) = (n1 : Int) := by rw [show (n : Int) - 1 = (n1 : Int) by omega]; exact IntWalk.i64_in _ (by omega)
  have htl : tb < w.heap.size := (Array.getElem?_eq_some_iff.1 htb).1
  have HC := Lib.hid fun (W : World) (hW : Below w.heap.size w W) => show W.cell? ⟨tb, 0, none⟩ = some (.pointer (some ⟨b, 0, none⟩)) ∧ W.cell? ⟨tb, 1, none⟩ = some (.int .i64 (n : Int)) from
    ⟨(hW.cell (p := ⟨tb, 0, none⟩) htl).trans (obj_cell htb 0), (hW.cell (p := ⟨tb, 1, none⟩) htl).trans (obj_cell htb 1)⟩
  have HWO := Lib.hid fun (W : World) (hW : Below w.heap.size w W) => without_is hh s t b W (hn.below hW) hok hg.rise ⟨x0, hx0, hx0s⟩
  have HG := Lib.hid hg
  have EN := Lib.hid (And.intro en en1)
  have HNO := Lib.hid (show ¬ ∀ x ∈ NT.flat hh t, x.f.path ≠ s from fun hall => hall x0 hx0 hx0s)
  have HL := Lib.hid hok.len
  have HN0 := Lib.hid hn0
  clear hg hr ht h hs hx0 hx0s hn hok htb en en1 hn4 htl hn0
  go_enter Try.func12, Try.ntmps12
  go_wp2_with fail
  go_at_call 27
  (with_reducible refine HF.out.mono ?_)
  rintro e w1 (⟨x, hx, hxs, rfl, hb⟩ | ⟨hno, _, _⟩)
  · have HW2 := Lib.hid (hb.trans ((bl1 w1 (.cells #[.string x.f.path, .int .i64 x.f.ver, .pointer x.q] 68)).mono hb.size))
    obtain ⟨y0, y1⟩ := HC.out _ HW2.out
    have HWO2 := Lib.hid (HWO.out _ HW2.out)
    clear hx hxs hb
    go_wp2_with fail
    go_at_call 31
    (with_reducible refine HWO2.out.mono ?_)
    rintro e w3 ⟨r, b', rfl, hr', hcut, hl1, hl2, hok', hb3⟩
    have hw3 := HW2.out.trans (hb3.mono HW2.out.size)
    have HW3 := Lib.hid hw3
    obtain ⟨z1, z2⟩ := HC.out w3 hw3
    have hl := HL.out
    obtain ⟨ad, hnode, hka, hk0⟩ := IsN.node hr' (hok' 0 2 (Nat.zero_le _) (by omega))
    obtain ⟨B1, d1, hB0, _, _, _⟩ := hnode.file
    obtain ⟨m, em⟩ : ∃ m, m = (NT.files hh r).length := ⟨_, rfl⟩
    rw [← em] at hB0
    have z0 := hB0 w3 (Below.refl _ _)
    have HGOOD := Lib.hid fun (W : World) (hW : Below w.heap.size w W) => (HG.out.below hW).cut hcut
    have HDR := Lib.hid (show dropF ((NT.flat hh t).map (·.f)) s = (NT.flat hh r).map (·.f) from hcut.is.symm)
    have HLN := Lib.hid (show (NT.flat hh r).length = n1 from by
      have h1 := hcut.len
      have h2 := EN.out
      have h3 := HN0.out
      omega)
    by_cases hm : m = 0
    · subst hm
      have hf0 : NT.files hh r = [] := List.eq_nil_of_length_eq_zero em.symm
      cases hh with
      | zero =>
        have HK := Lib.hid (show Calls Try.prog 32 #[.pointer (some ⟨b', 0, none⟩), .int .i64 0] w3 (fun e w' => e = .returned (.pointer none) ∧ w3 = w') from kid_none (show NodeAt w3 b' r [] from hr') 0)
        have HR0 := Lib.hid (show NT.flat 0 r = [] from hf0)
        clear hr' hcut hl1 hl2 hok' hb3 hw3 hl hnode hka hk0 hB0 em hf0
        go_wp2_with fail
        go_at_call 32
        (with_reducible refine HK.out.mono ?_)
        rintro e w4 ⟨rfl, rfl⟩
        go_wp2_with fail
        go_ret2
        have hbz := bl1 w3 (.cells #[.pointer none, .int .i64 (n1 : Int)] 81)
        have hwz := HW3.out.trans (hbz.mono HW3.out.size)
        refine ⟨_, rfl, ⟨NT.flat 0 r, none, HDR.out, HGOOD.out _ hwz, .inl ⟨rfl, HR0.out⟩, .inr ⟨_, rfl, ?_⟩⟩, hwz⟩
        rw [HLN.out]
        exact heap_alloc_new w3 _
      | succ h =>
        obtain ⟨fs, ks⟩ := r
        have hf0 : fs = [] := hf0
        subst hf0
        obtain ⟨_, _, o3, o4⟩ := hok' 0 2 (Nat.zero_le _) (by show ([] : List FX).length ≤ 2; simp)
        obtain ⟨ad2, hn2, hkl, hkids⟩ := hr'
        obtain ⟨k, rfl⟩ : ∃ k, ks = [k] := by
          match ks, o3 with
          | [k], _ => exact ⟨k, rfl⟩
        obtain ⟨a, rfl⟩ : ∃ a, ad2 = [a] := by
          match ad2, hkl with
          | [a], _ => exact ⟨a, rfl⟩
        have HKN := Lib.hid (And.intro (hkids 0 k a rfl rfl) (o4 k List.mem_cons_self))
        have HK := Lib.hid (show Calls Try.prog 32 #[.pointer (some ⟨b', 0, none⟩), .int .i64 0] w3 (fun e w' => e = .returned (.pointer (some ⟨a, 0, none⟩)) ∧ w3 = w') from kid_some hn2 0 a rfl (by simp))
        have HR0 := Lib.hid (show NT.flat h k = NT.flat (h + 1) ([], [k]) from by simp [NT.flat, weave, tailF])
        clear hn2 hkids o3 o4 hcut hl1 hl2 hok' hb3 hw3 hl hnode hka hk0 hB0 em hkl
        go_wp2_with fail
        go_at_call 32
        (with_reducible refine HK.out.mono ?_)
        rintro e w4 ⟨rfl, rfl⟩
        go_wp2_with fail
        go_ret2
        have hbz := bl1 w3 (.cells #[.pointer (some ⟨a, 0, none⟩), .int .i64 (n1 : Int)] 81)
        have hwz := HW3.out.trans (hbz.mono HW3.out.size)
        refine ⟨_, rfl, ⟨NT.flat (h + 1) ([], [k]), some ⟨a, 0, none⟩, HDR.out, HGOOD.out _ hwz, .inr ⟨h, k, a, rfl, HKN.out.1.below hbz, HKN.out.2, HR0.out⟩, .inr ⟨_, rfl, ?_⟩⟩, hwz⟩
        rw [HLN.out]
        exact heap_alloc_new w3 _
    · have g1 : ((m : Int) == 0) = false := by simp; omega
      have g1n : (m == 0) = false := by simp; omega
      have HT := Lib.hid (And.intro hr' (hok' 1 2 (by omega) (by omega)))
      clear hr' hcut hl1 hl2 hok' hb3 hw3 hl hnode hka hk0 hB0 em hm
      go_wp2_with fail
      go_ret2
      have hbz := bl1 w3 (.cells #[.pointer (some ⟨b', 0, none⟩), .int .i64 (n1 : Int)] 81)
      have hwz := HW3.out.trans (hbz.mono HW3.out.size)
      refine ⟨_, rfl, ⟨NT.flat hh r, some ⟨b', 0, none⟩, HDR.out, HGOOD.out _ hwz, .inr ⟨hh, r, b', rfl, HT.out.1.below hbz, HT.out.2, rfl⟩, .inr ⟨_, rfl, ?_⟩⟩, hwz⟩
      rw [HLN.out]
      exact heap_alloc_new w3 _
  · exact absurd hno HNO.out
end Go.Proofs.Ytcjbhjbjkfgphaa

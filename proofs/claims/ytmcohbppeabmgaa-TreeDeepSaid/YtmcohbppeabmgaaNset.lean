/-
  The program's Set, of any tree of its own: the file put in. Condition: the path is one, and there is room.
-/
import Derived.Test.YtmcohbppeabmgaaNright
namespace Go.Proofs.Ytmcohbppeabmgaa
open Go.RowKit Go.Deep

theorem l5_1 (w : World) (a b c d e : Obj) : (((((w.alloc a).alloc b).alloc c).alloc d).alloc e).heap[w.heap.size + 1]? = some b := by
  rw [Below.heap_alloc _ e _ (by simp only [World.size_alloc]; omega)]
  rw [Below.heap_alloc _ d _ (by simp only [World.size_alloc]; omega)]
  rw [Below.heap_alloc _ c _ (by simp only [World.size_alloc]; omega)]
  have h := heap_alloc_new (w.alloc a) b
  simp only [World.size_alloc] at h
  exact h
theorem l5_2 (w : World) (a b c d e : Obj) : (((((w.alloc a).alloc b).alloc c).alloc d).alloc e).heap[w.heap.size + 1 + 1]? = some c := by
  rw [Below.heap_alloc _ e _ (by simp only [World.size_alloc]; omega)]
  rw [Below.heap_alloc _ d _ (by simp only [World.size_alloc]; omega)]
  have h := heap_alloc_new ((w.alloc a).alloc b) c
  simp only [World.size_alloc] at h
  exact h
theorem l5_3 (w : World) (a b c d e : Obj) : (((((w.alloc a).alloc b).alloc c).alloc d).alloc e).heap[w.heap.size + 1 + 1 + 1]? = some d := by
  rw [Below.heap_alloc _ e _ (by simp only [World.size_alloc]; omega)]
  have h := heap_alloc_new (((w.alloc a).alloc b).alloc c) d
  simp only [World.size_alloc] at h
  exact h
theorem l5_4 (w : World) (a b c d e : Obj) : (((((w.alloc a).alloc b).alloc c).alloc d).alloc e).heap[w.heap.size + 1 + 1 + 1 + 1]? = some e := by
  have h := heap_alloc_new ((((w.alloc a).alloc b).alloc c).alloc d) e
  simp only [World.size_alloc] at h
  exact h
theorem put_empty (x : FX) : PutX [] x [x] := ⟨[], [], [], rfl, rfl, (fun _ h => by cases h), (fun _ h => by cases h), .inl rfl⟩
theorem bl5 (W : World) (a b c d e : Obj) : Below W.heap.size W (((((W.alloc a).alloc b).alloc c).alloc d).alloc e) := ((bl3 W a b c).alloc (by simp; omega) d).alloc (by simp; omega) e
def WithRoot (xs : List FX) (x : FX) (w : World) (e : Ending) (w' : World) : Prop := ∃ (h : Nat) (t : NT h) (b : Nat), e = .returned (.pointer (some ⟨b, 0, none⟩)) ∧ IsN w' h t b ∧ (∀ lo hi, lo ≤ (NT.files h t).length → (NT.files h t).length ≤ hi → NT.ok lo hi h t) ∧ 1 ≤ (NT.files h t).length ∧ (NT.files h t).length ≤ 3 ∧ PutX xs x (NT.flat h t) ∧ Below w.heap.size w w'
set_option maxRecDepth 100000 in
set_option maxHeartbeats 2000000 in
theorem with_nil (x : FX) (w : World) : Calls Try.prog 31 #[.pointer none, .agg #[.string x.f.path, .int .i64 x.f.ver, .pointer x.q]] w (WithRoot [] x w) := by
  have h1 := bl3 w (.cells #[.string x.f.path, .int .i64 x.f.ver, .pointer x.q] 70) (.cells #[.string x.f.path, .int .i64 x.f.ver, .pointer x.q] 70) (.cells #[.slice (some ⟨w.heap.size + 1, 0, none⟩) 1 1, .slice none 0 0] 79)
  have o1 : (((w.alloc (.cells #[.string x.f.path, .int .i64 x.f.ver, .pointer x.q] 70)).alloc (.cells #[.string x.f.path, .int .i64 x.f.ver, .pointer x.q] 70)).alloc (.cells #[.slice (some ⟨w.heap.size + 1, 0, none⟩) 1 1, .slice none 0 0] 79)).heap[w.heap.size + 1]? = some (.cells #[.string x.f.path, .int .i64 x.f.ver, .pointer x.q] 70) := h3_1 w _ _ _
  have o2 : (((w.alloc (.cells #[.string x.f.path, .int .i64 x.f.ver, .pointer x.q] 70)).alloc (.cells #[.string x.f.path, .int .i64 x.f.ver, .pointer x.q] 70)).alloc (.cells #[.slice (some ⟨w.heap.size + 1, 0, none⟩) 1 1, .slice none 0 0] 79)).heap[w.heap.size + 1 + 1]? = some (.cells #[.slice (some ⟨w.heap.size + 1, 0, none⟩) 1 1, .slice none 0 0] 79) := h3_2 w _ _ _
  have H1 := Lib.hid h1
  have HO := Lib.hid (And.intro o1 o2)
  clear h1 o1 o2
  go_enter Try.func31, Try.ntmps31
  go_wp2_with fail
  go_ret
  exact ⟨0, [x], _, rfl, ⟨_, 1, none, 0, HO.out.2, Nat.le_refl _, Nat.le_refl _, raw_one HO.out.1, RawAt.nil _ _⟩, fun _ _ h1 h2 => ⟨h1, h2⟩, Nat.le_refl _, by simp [NT.files], put_empty x, H1.out⟩
theorem with_root (x : FX) {w : World} {r : Option Addr} {xs : List FX} (hr : RootIs w r xs) (hx : RisingX xs) : Calls Try.prog 31 #[.pointer r, .agg #[.string x.f.path, .int .i64 x.f.ver, .pointer x.q]] w (WithRoot xs x w) := by
  rcases hr with ⟨rfl, rfl⟩ | ⟨h, t, b, rfl, h1, h2, rfl⟩
  · exact with_nil x w
  · refine (with_is x h t b w h1 h2 hx).mono ?_
    rintro e w' ⟨r, b', rfl, k1, k2, k3, k4, k5, k6⟩
    have := h2.len
    exact ⟨h, r, b', rfl, k1, k5, by omega, by omega, k2, k6⟩
set_option maxRecDepth 100000 in
set_option maxHeartbeats 1000000 in
theorem clone_text (s : ByteArray) (w : World) (hs : s.size ≤ 281474976710656) : Calls Try.prog 28 #[.string s] w (Answers (.string s) w) := by
  have HC := Lib.hid (Try.stringslite_Clone s w hs)
  clear hs
  go_enter Try.func28, Try.ntmps28
  go_wp2_with fail
  go_at_call 41
  (with_reducible refine HC.out.mono ?_)
  rintro e w1 ⟨rfl, hb⟩
  have HB := Lib.hid hb
  clear hb
  go_wp2_with fail
  go_ret
  exact ⟨rfl, HB.out⟩
theorem Good.put {w : World} {xs ys : List FX} {x : FX} {l : List UInt8} (hg : Good w xs) (hp : PutX xs x ys) (hr : RightP x.f.path) (hn : ys.length ≤ 1024) (hl : RopeIs w x.q l) (ht : x.f.text = txt l) (hv : (Lit.int .i64 x.f.ver).wf = true) : Good w ys where
  rise := hp.rising hg.rise
  right := fun y hy => (hp.mem y hy).elim (fun e => e ▸ hr) (hg.right y)
  few := hn
  ropes := fun y hy => (hp.mem y hy).elim (fun e => e ▸ ⟨l, hl, ht⟩) (hg.ropes y)
  vers := fun y hy => (hp.mem y hy).elim (fun e => e ▸ hv) (hg.vers y)
theorem put_len_in {xs ys : List FX} {x y : FX} (hp : PutX xs x ys) (hy : y ∈ xs) (he : y.f.path = x.f.path) : ys.length = xs.length := by
  obtain ⟨a, m, b, rfl, rfl, h1, h2, rfl | ⟨o, rfl, _⟩⟩ := hp
  · simp only [List.nil_append] at hy
    rcases List.mem_append.1 hy with hy | hy
    · have := h1 y hy
      rw [he, pless_irrefl] at this
      cases this
    · have := h2 y hy
      rw [he, pless_irrefl] at this
      cases this
  · simp
theorem put_len_out {xs ys : List FX} {x : FX} (hp : PutX xs x ys) (hn : ∀ y ∈ xs, y.f.path ≠ x.f.path) : ys.length = xs.length + 1 := by
  obtain ⟨a, m, b, rfl, rfl, h1, h2, rfl | ⟨o, rfl, ho⟩⟩ := hp
  · simp
    omega
  · exact absurd ho (hn o (by simp))
theorem drop_out {xs : List FX} {s : ByteArray} (hn : ∀ y ∈ xs, y.f.path ≠ s) : (dropF (xs.map (·.f)) s).length = xs.length := by
  rw [dropF_none (findF_none.2 fun f hf => by
    obtain ⟨y, hy, rfl⟩ := List.mem_map.1 hf
    exact hn y hy), List.length_map]
theorem right_size {s : ByteArray} (h : RightP s) : s.size ≤ 281474976710656 := by
  have := h.2.1
  omega

set_option maxRecDepth 100000 in
set_option maxHeartbeats 4000000 in
theorem tree_set {w : World} {p : Option Addr} {fs : List FileM} {q : Option Addr} {l : List UInt8} (s : ByteArray) (v : Int) (t : ByteArray) (h : TreeIs w p fs) (hq : RopeIs w q l) (htx : t = txt l) (hs : RightP s) (hroom : (dropF fs s).length < 1024) (hv : (Lit.int .i64 v).wf = true) :
    Calls Try.prog 11 #[.pointer p, .string s, .int .i64 v, .pointer q] w (TreeMade TreeIs (putF fs ⟨s, v, t⟩) w) := by
  obtain ⟨xs, r, rfl, hg, hr, ht⟩ := h.top
  have HR := Lib.hid (tree_right s w (right_size hs))
  rw [decide_eq_true hs] at HR
  obtain ⟨x, ex⟩ : ∃ x : FX, x = ⟨⟨s, v, t⟩, q⟩ := ⟨_, rfl⟩
  have hxs : x.f.path = s := by rw [ex]
  have hxv : x.f.ver = v := by rw [ex]
  have hxq : x.q = q := by rw [ex]
  obtain ⟨n, en⟩ : ∃ n, n = xs.length := ⟨_, rfl⟩
  rw [← en] at ht
  have HG := Lib.hid hg
  have HRO := Lib.hid hr
  have HTOP := Lib.hid ht
  have EN := Lib.hid en
  have EX := Lib.hid (And.intro ex (And.intro hxs (And.intro hxv hxq)))
  have HQ := Lib.hid (And.intro hq (And.intro htx (And.intro hs (And.intro hroom hv))))
  have hn4 : n ≤ 1024 := by rw [en]; exact hg.few
  have HN4 := Lib.hid hn4
  clear hg hr ht h hq htx hs hroom hv ex hxs hxv hxq en hn4
  go_enter Try.func11, Try.ntmps11
  go_wp2_with fail
  go_at_call 15
  (with_reducible refine HR.out.mono ?_)
  rintro e w1 ⟨rfl, hb1⟩
  have HB1 := Lib.hid hb1
  have HLEN := Lib.hid (len_top (HTOP.out.below hb1))
  have HF := Lib.hid (find_is s (HTOP.out.below hb1) (HRO.out.below hb1) HG.out.rise)
  clear hb1
  go_wp2_with fail
  go_at_call 21
  (with_reducible refine HLEN.out.mono ?_)
  rintro e w1' ⟨rfl, rfl⟩
  go_wp2_with fail
  go_at_call 29
  (with_reducible refine HF.out.mono ?_)
  rintro e w2 (⟨x0, hx0, hx0s, rfl, hb2⟩ | ⟨hno, rfl, hb2⟩)
  · have HB2 := Lib.hid (HB1.out.trans (hb2.mono HB1.out.size))
    have HX0 := Lib.hid (And.intro hx0 hx0s)
    obtain ⟨sz, esz⟩ : ∃ sz, sz = n := ⟨_, rfl⟩
    have hsz : ∀ {ys : List FX}, PutX xs x ys → ys.length = sz := fun hp => by rw [put_len_in hp HX0.out.1 (by rw [HX0.out.2, EX.out.2.1]), esz, EN.out]
    have hsz2 : sz ≤ 1024 := by rw [esz]; exact HN4.out
    subst esz
    have gs : decide (1024 < (sz : Int)) = false := by simp; omega
    have gsn : decide (1024 < sz) = false := by simp; omega
    clear hb2 hx0 hx0s
    have HW3 := Lib.hid (HB2.out.trans ((bl1 w2 (.cells #[.string x0.f.path, .int .i64 x0.f.ver, .pointer x0.q] 70)).mono HB2.out.size))
    have HTOP3 := Lib.hid (top_is (HTOP.out.below HW3.out))
    have HCL := Lib.hid (clone_text s (w2.alloc (.cells #[.string x0.f.path, .int .i64 x0.f.ver, .pointer x0.q] 70)) (right_size HQ.out.2.2.1))
    go_wp2_with fail
    go_at_call 30
    (with_reducible refine HTOP3.out.mono ?_)
    rintro e w3 ⟨rfl, rfl⟩
    go_wp2_with fail
    go_at_call 28
    (with_reducible refine HCL.out.mono ?_)
    rintro e w4 ⟨rfl, hb4⟩
    have HW4 := Lib.hid (HW3.out.trans (hb4.mono HW3.out.size))
    have hwr := with_root x (HRO.out.below HW4.out) HG.out.rise
    rw [EX.out.2.1, EX.out.2.2.1, EX.out.2.2.2] at hwr
    have HWR := Lib.hid hwr
    clear hb4 hwr
    go_wp2_with fail
    go_at_call 31
    (with_reducible refine HWR.out.mono ?_)
    rintro e w5 ⟨h, t', b, rfl, hn, hok, hl1, hl3, hput, hb5⟩
    have HW5 := Lib.hid (HW4.out.trans (hb5.mono HW4.out.size))
    obtain ⟨ad, hnode, hka, _⟩ := IsN.node hn (hok 1 3 hl1 hl3)
    obtain ⟨B1, d1, hB0, _, _, _⟩ := hnode.file
    obtain ⟨m, em⟩ : ∃ m, m = (NT.files h t').length := ⟨_, rfl⟩
    rw [← em] at hB0
    have z0 := hB0 w5 (Below.refl _ _)
    have hlen : (NT.flat h t').length = sz := hsz hput
    have HGOOD := Lib.hid fun (W : World) (hW : Below w.heap.size w W) => Good.put (x := x) (l := l) (HG.out.below hW) hput (by rw [EX.out.2.1]; exact HQ.out.2.2.1) (by rw [hlen]; exact hsz2) (by rw [EX.out.2.2.2]; exact HQ.out.1.below hW) (by rw [EX.out.1]; exact HQ.out.2.1) (by rw [EX.out.2.2.1]; exact HQ.out.2.2.2.2)
    have HPUT := Lib.hid (show putF (xs.map (·.f)) ⟨s, v, t⟩ = (NT.flat h t').map (·.f) from by rw [hput.is, EX.out.1])
    have HLEN2 := Lib.hid hlen
    have HN := Lib.hid hn
    have HM := Lib.hid em
    have HL := Lib.hid (And.intro hl1 hl3)
    have HOKT := Lib.hid hok
    by_cases hm2 : m ≤ 2
    · have g2 : decide (2 < (m : Int)) = false := by simp; omega
      have g2n : decide (2 < m) = false := by simp; omega
      have HT2 := Lib.hid (hok 1 2 hl1 (by rw [← em]; exact hm2))
      clear hn hok hl1 hl3 hput hb5 hnode hka hB0 em hlen hm2
      go_wp2_with fail
      go_ret2
      have hbz := bl1 w5 (.cells #[.pointer (some ⟨b, 0, none⟩), .int .i64 (sz : Int)] 83)
      have hwz := HW5.out.trans (hbz.mono HW5.out.size)
      refine ⟨_, rfl, ⟨NT.flat h t', _, HPUT.out, HGOOD.out _ hwz, .inr ⟨h, t', b, rfl, HN.out.below hbz, HT2.out, rfl⟩, .inr ⟨_, rfl, ?_⟩⟩, hwz⟩
      rw [HLEN2.out]
      exact heap_alloc_new w5 _
    · have g2 : decide (2 < (m : Int)) = true := by simp; omega
      have g2n : decide (2 < m) = true := by simp; omega
      obtain ⟨y0, y1, y2, ad2, hn3, hk3, ta, tb, hfl, ota, otb, hmk⟩ := NT.halves hn (hok 3 3 (by rw [← em]; omega) hl3)
      have HH := Lib.hid (halves_are hn3 hk3)
      have HMK := Lib.hid hmk
      have HFL := Lib.hid (And.intro hfl (And.intro ota otb))
      clear hn hok hl1 hl3 hput hb5 hnode hka hB0 em hlen hm2 hn3 hk3 hfl ota otb hmk
      go_wp2_with fail
      go_at_call 32
      (with_reducible refine HH.out.mono ?_)
      rintro e w6 ⟨a, b2, rfl, ha, hb2', hb6⟩
      have HAB := Lib.hid (And.intro ha hb2')
      have HB6 := Lib.hid hb6
      clear ha hb2' hb6
      go_wp2_with fail
      go_ret2
      have hz := bl5 w6 (.cells #[.string y1.f.path, .int .i64 y1.f.ver, .pointer y1.q] 70) (.cells #[.string y1.f.path, .int .i64 y1.f.ver, .pointer y1.q] 70) (.cells #[.pointer (some ⟨a, 0, none⟩), .pointer (some ⟨b2, 0, none⟩)] 73) (.cells #[.slice (some ⟨w6.heap.size + 1, 0, none⟩) 1 1, .slice (some ⟨w6.heap.size + 1 + 1, 0, none⟩) 2 2] 79) (.cells #[.pointer (some ⟨w6.heap.size + 1 + 1 + 1, 0, none⟩), .int .i64 (sz : Int)] 83)
      have h5z := HB6.out.trans (hz.mono HB6.out.size)
      have hwz := HW5.out.trans (h5z.mono HW5.out.size)
      obtain ⟨k1, k2⟩ := HMK.out _ _ _ h5z (HAB.out.1.below hz) (HAB.out.2.below hz)
      have hkids := (KidsAre.one k1).append (KidsAre.one k2)
      refine ⟨_, rfl, ⟨NT.flat h t', some ⟨w6.heap.size + 1 + 1 + 1, 0, none⟩, HPUT.out, HGOOD.out _ hwz, .inr ⟨h + 1, ([y1], [ta, tb]), _, rfl, ⟨[a, b2], ⟨some ⟨w6.heap.size + 1, 0, none⟩, 1, some ⟨w6.heap.size + 1 + 1, 0, none⟩, 2, l5_3 w6 _ _ _ _ _, Nat.le_refl _, Nat.le_refl _, raw_one (l5_1 w6 _ _ _ _ _), raw_ks2 (l5_2 w6 _ _ _ _ _)⟩, rfl, hkids.2⟩, ⟨Nat.le_refl 1, by simp, rfl, ?_⟩, ?_⟩, .inr ⟨_, rfl, ?_⟩⟩, hwz⟩
      · intro k hk
        simp only [List.mem_cons, List.not_mem_nil, or_false] at hk
        rcases hk with rfl | rfl
        · exact HFL.out.2.1.to HFL.out.2.1.len.1 (Nat.le_trans HFL.out.2.1.len.2 (by omega))
        · exact HFL.out.2.2.to HFL.out.2.2.len.1 (Nat.le_trans HFL.out.2.2.len.2 (by omega))
      · rw [HFL.out.1]
        simp [NT.flat, weave, tailF]
      · rw [HLEN2.out]
        exact l5_4 w6 _ _ _ _ _
  · have HB2 := Lib.hid (HB1.out.trans (hb2.mono HB1.out.size))
    obtain ⟨sz, esz⟩ : ∃ sz, sz = n + 1 := ⟨_, rfl⟩
    have hsz : ∀ {ys : List FX}, PutX xs x ys → ys.length = sz := fun hp => by rw [put_len_out hp (by rw [EX.out.2.1]; exact hno), esz, EN.out]
    have hsz2 : sz ≤ 1024 := by
      have h1 := HQ.out.2.2.2.1
      rw [drop_out hno, ← EN.out] at h1
      omega
    have qs : IntKind.i64.wrap ((n : Int) + 1) = (sz : Int) := by rw [show (n : Int) + 1 = (sz : Int) by omega]; exact IntWalk.i64_in _ (by omega)
    have gs : decide (1024 < (sz : Int)) = false := by simp; omega
    have gsn : decide (1024 < sz) = false := by simp; omega
    clear hb2 esz
    have HW3 := Lib.hid (HB2.out.trans ((bl1 w2 (.cells #[.string ⟨#[]⟩, .int .i64 0, .pointer none] 70)).mono HB2.out.size))
    have HTOP3 := Lib.hid (top_is (HTOP.out.below HW3.out))
    have HCL := Lib.hid (clone_text s (w2.alloc (.cells #[.string ⟨#[]⟩, .int .i64 0, .pointer none] 70)) (right_size HQ.out.2.2.1))
    go_wp2_with fail
    go_at_call 30
    (with_reducible refine HTOP3.out.mono ?_)
    rintro e w3 ⟨rfl, rfl⟩
    go_wp2_with fail
    go_at_call 28
    (with_reducible refine HCL.out.mono ?_)
    rintro e w4 ⟨rfl, hb4⟩
    have HW4 := Lib.hid (HW3.out.trans (hb4.mono HW3.out.size))
    have hwr := with_root x (HRO.out.below HW4.out) HG.out.rise
    rw [EX.out.2.1, EX.out.2.2.1, EX.out.2.2.2] at hwr
    have HWR := Lib.hid hwr
    clear hb4 hwr
    go_wp2_with fail
    go_at_call 31
    (with_reducible refine HWR.out.mono ?_)
    rintro e w5 ⟨h, t', b, rfl, hn, hok, hl1, hl3, hput, hb5⟩
    have HW5 := Lib.hid (HW4.out.trans (hb5.mono HW4.out.size))
    obtain ⟨ad, hnode, hka, _⟩ := IsN.node hn (hok 1 3 hl1 hl3)
    obtain ⟨B1, d1, hB0, _, _, _⟩ := hnode.file
    obtain ⟨m, em⟩ : ∃ m, m = (NT.files h t').length := ⟨_, rfl⟩
    rw [← em] at hB0
    have z0 := hB0 w5 (Below.refl _ _)
    have hlen : (NT.flat h t').length = sz := hsz hput
    have HGOOD := Lib.hid fun (W : World) (hW : Below w.heap.size w W) => Good.put (x := x) (l := l) (HG.out.below hW) hput (by rw [EX.out.2.1]; exact HQ.out.2.2.1) (by rw [hlen]; exact hsz2) (by rw [EX.out.2.2.2]; exact HQ.out.1.below hW) (by rw [EX.out.1]; exact HQ.out.2.1) (by rw [EX.out.2.2.1]; exact HQ.out.2.2.2.2)
    have HPUT := Lib.hid (show putF (xs.map (·.f)) ⟨s, v, t⟩ = (NT.flat h t').map (·.f) from by rw [hput.is, EX.out.1])
    have HLEN2 := Lib.hid hlen
    have HN := Lib.hid hn
    have HM := Lib.hid em
    have HL := Lib.hid (And.intro hl1 hl3)
    have HOKT := Lib.hid hok
    by_cases hm2 : m ≤ 2
    · have g2 : decide (2 < (m : Int)) = false := by simp; omega
      have g2n : decide (2 < m) = false := by simp; omega
      have HT2 := Lib.hid (hok 1 2 hl1 (by rw [← em]; exact hm2))
      clear hn hok hl1 hl3 hput hb5 hnode hka hB0 em hlen hm2
      go_wp2_with fail
      go_ret2
      have hbz := bl1 w5 (.cells #[.pointer (some ⟨b, 0, none⟩), .int .i64 (sz : Int)] 83)
      have hwz := HW5.out.trans (hbz.mono HW5.out.size)
      refine ⟨_, rfl, ⟨NT.flat h t', _, HPUT.out, HGOOD.out _ hwz, .inr ⟨h, t', b, rfl, HN.out.below hbz, HT2.out, rfl⟩, .inr ⟨_, rfl, ?_⟩⟩, hwz⟩
      rw [HLEN2.out]
      exact heap_alloc_new w5 _
    · have g2 : decide (2 < (m : Int)) = true := by simp; omega
      have g2n : decide (2 < m) = true := by simp; omega
      obtain ⟨y0, y1, y2, ad2, hn3, hk3, ta, tb, hfl, ota, otb, hmk⟩ := NT.halves hn (hok 3 3 (by rw [← em]; omega) hl3)
      have HH := Lib.hid (halves_are hn3 hk3)
      have HMK := Lib.hid hmk
      have HFL := Lib.hid (And.intro hfl (And.intro ota otb))
      clear hn hok hl1 hl3 hput hb5 hnode hka hB0 em hlen hm2 hn3 hk3 hfl ota otb hmk
      go_wp2_with fail
      go_at_call 32
      (with_reducible refine HH.out.mono ?_)
      rintro e w6 ⟨a, b2, rfl, ha, hb2', hb6⟩
      have HAB := Lib.hid (And.intro ha hb2')
      have HB6 := Lib.hid hb6
      clear ha hb2' hb6
      go_wp2_with fail
      go_ret2
      have hz := bl5 w6 (.cells #[.string y1.f.path, .int .i64 y1.f.ver, .pointer y1.q] 70) (.cells #[.string y1.f.path, .int .i64 y1.f.ver, .pointer y1.q] 70) (.cells #[.pointer (some ⟨a, 0, none⟩), .pointer (some ⟨b2, 0, none⟩)] 73) (.cells #[.slice (some ⟨w6.heap.size + 1, 0, none⟩) 1 1, .slice (some ⟨w6.heap.size + 1 + 1, 0, none⟩) 2 2] 79) (.cells #[.pointer (some ⟨w6.heap.size + 1 + 1 + 1, 0, none⟩), .int .i64 (sz : Int)] 83)
      have h5z := HB6.out.trans (hz.mono HB6.out.size)
      have hwz := HW5.out.trans (h5z.mono HW5.out.size)
      obtain ⟨k1, k2⟩ := HMK.out _ _ _ h5z (HAB.out.1.below hz) (HAB.out.2.below hz)
      have hkids := (KidsAre.one k1).append (KidsAre.one k2)
      refine ⟨_, rfl, ⟨NT.flat h t', some ⟨w6.heap.size + 1 + 1 + 1, 0, none⟩, HPUT.out, HGOOD.out _ hwz, .inr ⟨h + 1, ([y1], [ta, tb]), _, rfl, ⟨[a, b2], ⟨some ⟨w6.heap.size + 1, 0, none⟩, 1, some ⟨w6.heap.size + 1 + 1, 0, none⟩, 2, l5_3 w6 _ _ _ _ _, Nat.le_refl _, Nat.le_refl _, raw_one (l5_1 w6 _ _ _ _ _), raw_ks2 (l5_2 w6 _ _ _ _ _)⟩, rfl, hkids.2⟩, ⟨Nat.le_refl 1, by simp, rfl, ?_⟩, ?_⟩, .inr ⟨_, rfl, ?_⟩⟩, hwz⟩
      · intro k hk
        simp only [List.mem_cons, List.not_mem_nil, or_false] at hk
        rcases hk with rfl | rfl
        · exact HFL.out.2.1.to HFL.out.2.1.len.1 (Nat.le_trans HFL.out.2.1.len.2 (by omega))
        · exact HFL.out.2.2.to HFL.out.2.2.len.1 (Nat.le_trans HFL.out.2.2.len.2 (by omega))
      · rw [HFL.out.1]
        simp [NT.flat, weave, tailF]
      · rw [HLEN2.out]
        exact l5_4 w6 _ _ _ _ _
end Go.Proofs.Ytmcohbppeabmgaa

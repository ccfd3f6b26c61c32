/-
  The program's Set of what is no path, and its Drop, of any tree of its own. Condition: no text is longer than 2^48 bytes.
-/
import Derived.Test.YtmcohbppeabmgaaNset
namespace Go.Proofs.Ytmcohbppeabmgaa
open Go.RowKit Go.Deep

set_option maxRecDepth 100000 in
set_option maxHeartbeats 1000000 in
theorem tree_set_no {w : World} (p : Option Addr) (q : Option Addr) (s : ByteArray) (v : Int) (hs : ¬ RightP s) (hn : s.size ≤ 281474976710656) : Calls Try.prog 11 #[.pointer p, .string s, .int .i64 v, .pointer q] w (TreeErr 71 w) := by
  have hr := tree_right s w hn
  rw [decide_eq_false hs] at hr
  have HR := Lib.hid hr
  clear hr hs hn
  go_enter Try.func11, Try.ntmps11
  go_wp2_with fail
  go_at_call 15
  (with_reducible refine HR.out.mono ?_)
  rintro e w1 ⟨rfl, hb1⟩
  have HB1 := Lib.hid hb1
  clear hb1
  go_wp2_with fail
  go_ret2
  exact ⟨none, rfl, HB1.out⟩
theorem found_no {xs : List FX} {s : ByteArray} (h : findF (xs.map (·.f)) s = none) : ∀ x ∈ xs, x.f.path ≠ s := fun x hx => findF_none.1 h x.f (List.mem_map_of_mem hx)
theorem found_yes {xs : List FX} {s : ByteArray} (h : findF (xs.map (·.f)) s ≠ none) : ∃ x ∈ xs, x.f.path = s := by
  by_cases hx : ∃ x ∈ xs, x.f.path = s
  · exact hx
  · refine absurd (findF_none.2 fun f hf => ?_) h
    obtain ⟨x, hx', rfl⟩ := List.mem_map.1 hf
    exact fun e => hx ⟨x, hx', e⟩
set_option maxRecDepth 100000 in
set_option maxHeartbeats 1000000 in
theorem tree_drop_no {w : World} {p : Option Addr} {fs : List FileM} (s : ByteArray) (h : TreeIs w p fs) (hs : findF fs s = none) : Calls Try.prog 13 #[.pointer p, .string s] w (TreeErr 72 w) := by
  obtain ⟨xs, r, rfl, hg, hr, ht⟩ := h.top
  have HF := Lib.hid (find_is s ht hr hg.rise)
  have HNO := Lib.hid (found_no hs)
  clear hg hr ht h hs
  go_enter Try.func13, Try.ntmps13
  go_wp2_with fail
  go_at_call 29
  (with_reducible refine HF.out.mono ?_)
  rintro e w1 (⟨x, hx, hxs, rfl, hb⟩ | ⟨hno, rfl, hb⟩)
  · exact absurd hxs (HNO.out x hx)
  · have HB := Lib.hid (hb.trans ((bl1 w1 (.cells #[.string ⟨#[]⟩, .int .i64 0, .pointer none] 70)).mono hb.size))
    clear hno hb
    go_wp2_with fail
    go_ret2
    exact ⟨none, rfl, HB.out⟩
theorem Good.cut {w : World} {xs ys : List FX} {s : ByteArray} (hg : Good w xs) (hp : CutX xs s ys) : Good w ys where
  rise := hp.rising hg.rise
  right := fun y hy => hg.right y (hp.mem y hy)
  few := by have := hp.len; have := hg.few; omega
  ropes := fun y hy => hg.ropes y (hp.mem y hy)
  vers := fun y hy => hg.vers y (hp.mem y hy)

set_option maxRecDepth 100000 in
set_option maxHeartbeats 4000000 in
theorem tree_drop {w : World} {p : Option Addr} {fs : List FileM} (s : ByteArray) (h : TreeIs w p fs) (hs : findF fs s ≠ none) : Calls Try.prog 13 #[.pointer p, .string s] w (TreeMade TreeIs (dropF fs s) w) := by
  obtain ⟨xs, r, rfl, hg, hr, ht⟩ := h.top
  obtain ⟨x0, hx0, hx0s⟩ := found_yes hs
  obtain ⟨hh, t, b, rfl, hn, hok, rfl⟩ : ∃ (h : Nat) (t : NT h) (b : Nat), r = some ⟨b, 0, none⟩ ∧ IsN w h t b ∧ NT.ok 1 2 h t ∧ NT.flat h t = xs := by
    rcases hr with ⟨_, rfl⟩ | hr
    · cases hx0
    · exact hr
  obtain ⟨tb, rfl, htb⟩ : ∃ tb, p = some ⟨tb, 0, none⟩ ∧ w.heap[tb]? = some (.cells #[.pointer (some ⟨b, 0, none⟩), .int .i64 ((NT.flat hh t).length : Int)] 83) := by
    rcases ht with ⟨_, e, _⟩ | ht
    · cases e
    · exact ht
  have HF := Lib.hid (find_is s ht hr hg.rise)
  obtain ⟨n, en⟩ : ∃ n, n = (NT.flat hh t).length := ⟨_, rfl⟩
  obtain ⟨n1, en1⟩ : ∃ q, q = n - 1 := ⟨_, rfl⟩
  rw [← en] at htb
  have hn0 : 0 < n := by rw [en]; exact List.length_pos_of_mem hx0
  have hn4 : n ≤ 1024 := by rw [en]; exact hg.few
  have q1 : IntKind.i64.wrap ((n : Int) - 1) = (n1 : Int) := by rw [show (n : Int) - 1 = (n1 : Int) by omega]; exact IntWalk.i64_in _ (by omega)
  have htl : tb < w.heap.size := (Array.getElem?_eq_some_iff.1 htb).1
  have HC := Lib.hid fun (W : World) (hW : Below w.heap.size w W) => show W.cell? ⟨tb, 0, none⟩ = some (.pointer (some ⟨b, 0, none⟩)) ∧ W.cell? ⟨tb, 1, none⟩ = some (.int .i64 (n : Int)) from
    ⟨(hW.cell (p := ⟨tb, 0, none⟩) htl).trans (obj_cell htb 0), (hW.cell (p := ⟨tb, 1, none⟩) htl).trans (obj_cell htb 1)⟩
  have HWO := Lib.hid fun (W : World) (hW : Below w.heap.size w W) => without_is hh s t b W (hn.below hW) hok hg.rise ⟨x0, hx0, hx0s⟩
  have HG := Lib.hid hg
  have EN := Lib.hid (And.intro en en1)
  have HNO := Lib.hid (show ¬ ∀ x ∈ NT.flat hh t, x.f.path ≠ s from fun hall => hall x0 hx0 hx0s)
  have HL := Lib.hid hok.len
  have HN0 := Lib.hid hn0
  clear hg hr ht h hs hx0 hx0s hn hok htb en en1 hn4 htl hn0
  go_enter Try.func13, Try.ntmps13
  go_wp2_with fail
  go_at_call 29
  (with_reducible refine HF.out.mono ?_)
  rintro e w1 (⟨x, hx, hxs, rfl, hb⟩ | ⟨hno, _, _⟩)
  · have HW2 := Lib.hid (hb.trans ((bl1 w1 (.cells #[.string x.f.path, .int .i64 x.f.ver, .pointer x.q] 70)).mono hb.size))
    obtain ⟨y0, y1⟩ := HC.out _ HW2.out
    have HWO2 := Lib.hid (HWO.out _ HW2.out)
    clear hx hxs hb
    go_wp2_with fail
    go_at_call 33
    (with_reducible refine HWO2.out.mono ?_)
    rintro e w3 ⟨r, b', rfl, hr', hcut, hl1, hl2, hok', hb3⟩
    have hw3 := HW2.out.trans (hb3.mono HW2.out.size)
    have HW3 := Lib.hid hw3
    obtain ⟨z1, z2⟩ := HC.out w3 hw3
    have hl := HL.out
    obtain ⟨ad, hnode, hka, hk0⟩ := IsN.node hr' (hok' 0 2 (Nat.zero_le _) (by omega))
    obtain ⟨B1, d1, hB0, _, _, _⟩ := hnode.file
    obtain ⟨m, em⟩ : ∃ m, m = (NT.files hh r).length := ⟨_, rfl⟩
    rw [← em] at hB0
    have z0 := hB0 w3 (Below.refl _ _)
    have HGOOD := Lib.hid fun (W : World) (hW : Below w.heap.size w W) => (HG.out.below hW).cut hcut
    have HDR := Lib.hid (show dropF ((NT.flat hh t).map (·.f)) s = (NT.flat hh r).map (·.f) from hcut.is.symm)
    have HLN := Lib.hid (show (NT.flat hh r).length = n1 from by
      have h1 := hcut.len
      have h2 := EN.out
      have h3 := HN0.out
      omega)
    by_cases hm : m = 0
    · subst hm
      have hf0 : NT.files hh r = [] := List.eq_nil_of_length_eq_zero em.symm
      cases hh with
      | zero =>
        have HK := Lib.hid (show Calls Try.prog 34 #[.pointer (some ⟨b', 0, none⟩), .int .i64 0] w3 (fun e w' => e = .returned (.pointer none) ∧ w3 = w') from kid_none (show NodeAt w3 b' r [] from hr') 0)
        have HR0 := Lib.hid (show NT.flat 0 r = [] from hf0)
        clear hr' hcut hl1 hl2 hok' hb3 hw3 hl hnode hka hk0 hB0 em hf0
        go_wp2_with fail
        go_at_call 34
        (with_reducible refine HK.out.mono ?_)
        rintro e w4 ⟨rfl, rfl⟩
        go_wp2_with fail
        go_ret2
        have hbz := bl1 w3 (.cells #[.pointer none, .int .i64 (n1 : Int)] 83)
        have hwz := HW3.out.trans (hbz.mono HW3.out.size)
        refine ⟨_, rfl, ⟨NT.flat 0 r, none, HDR.out, HGOOD.out _ hwz, .inl ⟨rfl, HR0.out⟩, .inr ⟨_, rfl, ?_⟩⟩, hwz⟩
        rw [HLN.out]
        exact heap_alloc_new w3 _
      | succ h =>
        obtain ⟨fs, ks⟩ := r
        have hf0 : fs = [] := hf0
        subst hf0
        obtain ⟨_, _, o3, o4⟩ := hok' 0 2 (Nat.zero_le _) (by show ([] : List FX).length ≤ 2; simp)
        obtain ⟨ad2, hn2, hkl, hkids⟩ := hr'
        obtain ⟨k, rfl⟩ : ∃ k, ks = [k] := by
          match ks, o3 with
          | [k], _ => exact ⟨k, rfl⟩
        obtain ⟨a, rfl⟩ : ∃ a, ad2 = [a] := by
          match ad2, hkl with
          | [a], _ => exact ⟨a, rfl⟩
        have HKN := Lib.hid (And.intro (hkids 0 k a rfl rfl) (o4 k List.mem_cons_self))
        have HK := Lib.hid (show Calls Try.prog 34 #[.pointer (some ⟨b', 0, none⟩), .int .i64 0] w3 (fun e w' => e = .returned (.pointer (some ⟨a, 0, none⟩)) ∧ w3 = w') from kid_some hn2 0 a rfl (by simp))
        have HR0 := Lib.hid (show NT.flat h k = NT.flat (h + 1) ([], [k]) from by simp [NT.flat, weave, tailF])
        clear hn2 hkids o3 o4 hcut hl1 hl2 hok' hb3 hw3 hl hnode hka hk0 hB0 em hkl
        go_wp2_with fail
        go_at_call 34
        (with_reducible refine HK.out.mono ?_)
        rintro e w4 ⟨rfl, rfl⟩
        go_wp2_with fail
        go_ret2
        have hbz := bl1 w3 (.cells #[.pointer (some ⟨a, 0, none⟩), .int .i64 (n1 : Int)] 83)
        have hwz := HW3.out.trans (hbz.mono HW3.out.size)
        refine ⟨_, rfl, ⟨NT.flat (h + 1) ([], [k]), some ⟨a, 0, none⟩, HDR.out, HGOOD.out _ hwz, .inr ⟨h, k, a, rfl, HKN.out.1.below hbz, HKN.out.2, HR0.out⟩, .inr ⟨_, rfl, ?_⟩⟩, hwz⟩
        rw [HLN.out]
        exact heap_alloc_new w3 _
    · have g1 : ((m : Int) == 0) = false := by simp; omega
      have g1n : (m == 0) = false := by simp; omega
      have HT := Lib.hid (And.intro hr' (hok' 1 2 (by omega) (by omega)))
      clear hr' hcut hl1 hl2 hok' hb3 hw3 hl hnode hka hk0 hB0 em hm
      go_wp2_with fail
      go_ret2
      have hbz := bl1 w3 (.cells #[.pointer (some ⟨b', 0, none⟩), .int .i64 (n1 : Int)] 83)
      have hwz := HW3.out.trans (hbz.mono HW3.out.size)
      refine ⟨_, rfl, ⟨NT.flat hh r, some ⟨b', 0, none⟩, HDR.out, HGOOD.out _ hwz, .inr ⟨hh, r, b', rfl, HT.out.1.below hbz, HT.out.2, rfl⟩, .inr ⟨_, rfl, ?_⟩⟩, hwz⟩
      rw [HLN.out]
      exact heap_alloc_new w3 _
  · exact absurd hno HNO.out
end Go.Proofs.Ytmcohbppeabmgaa

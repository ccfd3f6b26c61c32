/-
  RopeCuts, of any package of ropes. Condition: the package's calls do what RopeApi says.
-/
import Derived.Test.YtfibclaojdoonaaRapi
import Derived.Deep.RegionHeld3
namespace Go.Proofs.Ytfibclaojdoonaa
open Go.RowKit Go.Deep

section
variable {R : World → Option Addr → List UInt8 → Prop}
set_option maxRecDepth 100000 in
set_option maxHeartbeats 4000000 in
theorem cuts_any (K : RopeApi R) (s t : ByteArray) (x y z : Int) (w : World) (hx : (Lit.int .i64 x).wf = true) (hy : (Lit.int .i64 y).wf = true) (hz : (Lit.int .i64 z).wf = true) :
    Calls Try.prog 5 #[.string s, .string t, .agg #[.int .i64 x, .int .i64 y, .int .i64 z]] w (TrueIs w) := by
  obtain ⟨w0, ew0⟩ : ∃ w0, w0 = w.alloc (.cells #[.int .i64 x, .int .i64 y, .int .i64 z] 44) := ⟨_, rfl⟩
  have hb0 : Below w.heap.size w w0 := by rw [ew0]; exact (Below.refl _ _).alloc (Nat.le_refl _) _
  have hlt : w.heap.size < w0.heap.size := by rw [ew0]; simp
  have hbx : w0.heap[w.heap.size]? = some (.cells #[.int .i64 x, .int .i64 y, .int .i64 z] 44 (0, 0)) := by rw [ew0]; exact heap_alloc_new w _
  have hbc : ∀ wr, Below w0.heap.size w0 wr → wr.cell? ⟨w.heap.size, 0, none⟩ = some (.int .i64 x) ∧ wr.cell? ⟨w.heap.size, 1, none⟩ = some (.int .i64 y) ∧ wr.cell? ⟨w.heap.size, 2, none⟩ = some (.int .i64 z) := fun wr hb =>
    ⟨(hb.cell (p := ⟨w.heap.size, 0, none⟩) hlt).trans (cell_of_row _ _ 0 _ _ _ hbx), (hb.cell (p := ⟨w.heap.size, 1, none⟩) hlt).trans (cell_of_row _ _ 1 _ _ _ hbx), (hb.cell (p := ⟨w.heap.size, 2, none⟩) hlt).trans (cell_of_row _ _ 2 _ _ _ hbx)⟩
  have HAL := Lib.hid fun (W : World) => alive_any K W
  have HB0 := Lib.hid hb0
  have HBC := Lib.hid hbc
  have EW0 := Lib.hid ew0
  clear hb0 hlt hbx hbc ew0
  by_cases h1 : 300 < s.size
  · have d1 : decide (300 < (s.size : Int)) = true := decide_eq_true (by omega)
    have d1n : decide (300 < s.size) = true := decide_eq_true (by omega)
    clear h1 hx hy hz
    go_enter Try.func5, Try.ntmps5
    go_wp2_with fail
    rw [← EW0.out]
    go_at_call 15
    (with_reducible refine (HAL.out _).mono ?_)
    rintro e w1 ⟨rfl, hb1⟩
    have HB1 := Lib.hid (HB0.out.trans (hb1.mono HB0.out.size))
    clear hb1
    go_wp2_with fail
    go_ret
    exact ⟨rfl, HB1.out⟩
  by_cases h2 : 300 < t.size
  · have d1 : decide (300 < (s.size : Int)) = false := decide_eq_false (by omega)
    have d1n : decide (300 < s.size) = false := decide_eq_false (by omega)
    have d2 : decide (300 < (t.size : Int)) = true := decide_eq_true (by omega)
    have d2n : decide (300 < t.size) = true := decide_eq_true (by omega)
    clear h1 h2 hx hy hz
    go_enter Try.func5, Try.ntmps5
    go_wp2_with fail
    rw [← EW0.out]
    go_at_call 15
    (with_reducible refine (HAL.out _).mono ?_)
    rintro e w1 ⟨rfl, hb1⟩
    have HB1 := Lib.hid (HB0.out.trans (hb1.mono HB0.out.size))
    clear hb1
    go_wp2_with fail
    go_ret
    exact ⟨rfl, HB1.out⟩
  have d1 : decide (300 < (s.size : Int)) = false := decide_eq_false (by omega)
  have d1n : decide (300 < s.size) = false := decide_eq_false (by omega)
  have d2 : decide (300 < (t.size : Int)) = false := decide_eq_false (by omega)
  have d2n : decide (300 < t.size) = false := decide_eq_false (by omega)
  have hfit : (9223372036854775807 < s.size + t.size) = False := eq_false (by omega)
  obtain ⟨a, ea⟩ : ∃ a, s = txt a := ⟨s.data.toList, (txt_of s).symm⟩
  obtain ⟨b, eb⟩ : ∃ b, t = txt b := ⟨t.data.toList, (txt_of t).symm⟩
  have hal : a.length = s.size := by rw [ea, size_txt]
  have hbl : b.length = t.size := by rw [eb, size_txt]
  have hst : txt (a ++ b) = s ++ t := by rw [ea, eb, txt_append]
  obtain ⟨L, eL⟩ : ∃ L, L = a ++ b := ⟨_, rfl⟩
  obtain ⟨n, en⟩ : ∃ n, n = L.length := ⟨_, rfl⟩
  have hn : n ≤ 600 := by rw [en, eL, List.length_append]; omega
  obtain ⟨n1, en1⟩ : ∃ k, k = n + 1 := ⟨_, rfl⟩
  obtain ⟨i, ei⟩ : ∃ k, k = red x n1 := ⟨_, rfl⟩
  have hi : i ≤ n := by have := red_lt x n1 (by omega); omega
  obtain ⟨i1, ei1⟩ : ∃ k, k = i + 1 := ⟨_, rfl⟩
  obtain ⟨k, ek⟩ : ∃ k, k = red y i1 := ⟨_, rfl⟩
  have hk : k ≤ i := by have := red_lt y i1 (by omega); omega
  obtain ⟨d, ed⟩ : ∃ d, d = i - k := ⟨_, rfl⟩
  obtain ⟨j1, ej1⟩ : ∃ j, j = d + 1 := ⟨_, rfl⟩
  obtain ⟨u, eu⟩ : ∃ u, u = red z j1 := ⟨_, rfl⟩
  have hu : u ≤ d := by have := red_lt z j1 (by omega); omega
  obtain ⟨m, em⟩ : ∃ m, m = k + u := ⟨_, rfl⟩
  have q1 : IntKind.i64.wrap ((n : Int) + 1) = (n1 : Int) := by rw [show (n : Int) + 1 = (n1 : Int) by omega]; exact IntWalk.i64_in _ (by omega)
  have q2 : IntKind.i64.wrap ((i : Int) + 1) = (i1 : Int) := by rw [show (i : Int) + 1 = (i1 : Int) by omega]; exact IntWalk.i64_in _ (by omega)
  have q3 : IntKind.i64.wrap ((i : Int) - (k : Int)) = (d : Int) := by rw [show (i : Int) - (k : Int) = (d : Int) by omega]; exact IntWalk.i64_in _ (by omega)
  have q4 : IntKind.i64.wrap ((d : Int) + 1) = (j1 : Int) := by rw [show (d : Int) + 1 = (j1 : Int) by omega]; exact IntWalk.i64_in _ (by omega)
  have q5 : IntKind.i64.wrap ((k : Int) + (u : Int)) = (m : Int) := by rw [show (k : Int) + (u : Int) = (m : Int) by omega]; exact IntWalk.i64_in _ (by omega)
  have q6 : IntKind.i64.wrap ((m : Int) - (k : Int)) = (u : Int) := by rw [show (m : Int) - (k : Int) = (u : Int) by omega]; exact IntWalk.i64_in _ (by omega)
  have hmi : m ≤ i := by omega
  have hkm : k ≤ m := by omega
  have HP1 := Lib.hid fun (W : World) => by
    have h := pick_any x n1 W hx (by omega) (by omega)
    rw [← ei] at h
    exact h
  have HP2 := Lib.hid fun (W : World) => by
    have h := pick_any y i1 W hy (by omega) (by omega)
    rw [← ek] at h
    exact h
  have HP3 := Lib.hid fun (W : World) => by
    have h := pick_any z j1 W hz (by omega) (by omega)
    rw [← eu] at h
    exact h
  have HOA := Lib.hid fun (W : World) => K.of_ok a s W ea (by omega)
  have HOB := Lib.hid fun (W : World) => K.of_ok b t W eb (by omega)
  have HJO := Lib.hid fun (W : World) (p q : Option Addr) (hp : R W p a) (hq : R W q b) => by
    have h := K.join_ok hp hq (by omega)
    rw [← eL] at h
    exact h
  have HLE := Lib.hid fun (W : World) (p : Option Addr) (hp : R W p L) => by
    have h := K.len_is hp
    rw [← en] at h
    exact h
  have HC1 := Lib.hid fun (W : World) (p : Option Addr) (hp : R W p L) => by
    have h := K.cut_ok 0 i hp (by omega) (by omega)
    rw [List.drop_zero, show ((0 : Nat) : Int) = 0 from rfl] at h
    exact h
  have HC2 := Lib.hid fun (W : World) (p : Option Addr) (hp : R W p L) => by
    have h := K.cut_ok i n hp (by omega) (by omega)
    rw [en, List.take_length, ← en] at h
    exact h
  have HJ2 := Lib.hid fun (W : World) (p q : Option Addr) (hp : R W p (L.take i)) (hq : R W q (L.drop i)) => by
    have h := K.join_ok hp hq (by rw [← List.length_append, List.take_append_drop]; omega)
    rw [List.take_append_drop] at h
    exact h
  have HTX := Lib.hid fun (W : World) (p : Option Addr) (hp : R W p L) => by
    have h := K.text_is hp
    rw [eL, hst] at h
    exact h
  obtain ⟨M, eM⟩ : ∃ M, M = (L.take m).drop k := ⟨_, rfl⟩
  obtain ⟨T, eT⟩ : ∃ T, T = txt M := ⟨_, rfl⟩
  have HC3 := Lib.hid fun (W : World) (p : Option Addr) (hp : R W p (L.take i)) => by
    have h := K.cut_ok k m hp hkm (by rw [List.length_take]; omega)
    rw [List.take_take, Nat.min_eq_left hmi, ← eM] at h
    exact h
  have HC4 := Lib.hid fun (W : World) (p : Option Addr) (hp : R W p L) => by
    have h := K.cut_ok k m hp hkm (by omega)
    rw [← eM] at h
    exact h
  have HTM := Lib.hid fun (W : World) (p : Option Addr) (hp : R W p M) => by
    have h := K.text_is hp
    rw [← eT] at h
    exact h
  have HLM := Lib.hid fun (W : World) (p : Option Addr) (hp : R W p M) => by
    have h := K.len_is hp
    rw [eM, List.length_drop, List.length_take, Nat.min_eq_left (by omega), show m - k = u by omega] at h
    exact h
  have s1 : ((s ++ t).toList == (s ++ t).toList) = true := by simp
  have s2 : (T.toList == T.toList) = true := by simp
  clear h1 h2 hx hy hz ea eb hal hbl hst eL en hn en1 ei hi ei1 ek hk ed ej1 eu hu em hmi hkm eM eT
  go_enter Try.func5, Try.ntmps5
  go_wp2_with fail
  rw [← EW0.out]
  go_at_call 9
  (with_reducible refine (HOA.out _).mono ?_)
  rintro e w1 ⟨p1, rfl, hr1, hb1⟩
  have HK1 := Lib.hid ((KeptR.start (R := R) w0).made K hr1 hb1)
  clear hr1 hb1
  go_wp2_with fail
  go_at_call 9
  (with_reducible refine (HOB.out _).mono ?_)
  rintro e w2 ⟨p2, rfl, hr2, hb2⟩
  have HK2 := Lib.hid (HK1.out.made K hr2 hb2)
  clear hr2 hb2
  go_wp2_with fail
  go_at_call 11
  (with_reducible refine (HJO.out _ _ _ (HK2.out.is (by simp)) (HK2.out.is (by simp))).mono ?_)
  rintro e w3 ⟨p, rfl, hr3, hb3⟩
  have HK3 := Lib.hid (HK2.out.made K hr3 hb3)
  clear hr3 hb3
  obtain ⟨c0, c1, c2⟩ := HBC.out w3 HK3.out.1
  have HLE3 := Lib.hid (HLE.out w3.drew p ((HK3.out.later K (Below.refl _ _).drew).is (by simp)))
  have HLB := Lib.hid (Nat.lt_of_lt_of_le (World.block_lt_of_cell? w0 _ (HBC.out w0 (Below.refl _ _)).1) HK3.out.1.size)
  clear c1 c2
  go_upto_region 8 with fail
  go_cut [13] from 51 to 56 (fun v wx => v = .int .i64 (i : Int) ∧ Below w3.heap.size w3 wx)
  case first =>
    go_wp2_with fail
    go_region_held3 (fun wx => wx.cell? ⟨w.heap.size, 0, none⟩ = some (.int .i64 x))
      ((first | assumption | exact c0 | exact (hb4.cell (p := ⟨w.heap.size, 0, none⟩) HLB.out).trans c0))
      (first
        | (go_at_call 18; (with_reducible refine HLE3.out.mono ?_); rintro e w4 ⟨rfl, hb4⟩)
        | (go_at_call 8; (with_reducible refine (HP1.out _).mono ?_); rintro e w5 ⟨rfl, rfl⟩))
    have HB4 := Lib.hid ((Below.refl _ w3).drew.trans hb4)
    clear hb4
    go_wp2_with fail
    go_meet
    exact ⟨rfl, HB4.out⟩
  case rest =>
    obtain ⟨rfl, hbc⟩ := hcut
    have HK4 := Lib.hid (HK3.out.later K hbc)
    clear hbc c0
    go_wp2_with fail
    go_at_call 12
    (with_reducible refine (HC1.out _ _ (HK4.out.is (by simp))).mono ?_)
    rintro e w5 ⟨r1, rfl, hr5, hb5⟩
    have HK5 := Lib.hid (HK4.out.made K hr5 hb5)
    clear hr5 hb5
    go_wp2_with fail
    go_at_call 18
    (with_reducible refine (HLE.out _ _ (HK5.out.is (by simp))).mono ?_)
    rintro e w6 ⟨rfl, hb6⟩
    have HK6 := Lib.hid (HK5.out.later K hb6)
    clear hb6
    go_wp2_with fail
    go_at_call 12
    (with_reducible refine (HC2.out _ _ (HK6.out.is (by simp))).mono ?_)
    rintro e w7 ⟨r2, rfl, hr7, hb7⟩
    have HK7 := Lib.hid (HK6.out.made K hr7 hb7)
    clear hr7 hb7
    go_wp2_with fail
    go_at_call 11
    (with_reducible refine (HJ2.out _ _ _ (HK7.out.is (by simp)) (HK7.out.is (by simp))).mono ?_)
    rintro e w8 ⟨r3, rfl, hr8, hb8⟩
    have HK8 := Lib.hid (HK7.out.made K hr8 hb8)
    clear hr8 hb8
    go_wp2_with fail
    go_at_call 19
    (with_reducible refine (HTX.out _ _ (HK8.out.is (by simp))).mono ?_)
    rintro e w9 ⟨rfl, hb9⟩
    have HK9 := Lib.hid (HK8.out.later K hb9)
    clear hb9
    go_wp2_with fail
    go_at_call 19
    (with_reducible refine (HTX.out _ _ (HK9.out.is (by simp))).mono ?_)
    rintro e w10 ⟨rfl, hb10⟩
    have hk10 := HK9.out.later K hb10
    obtain ⟨_, c1, c2⟩ := HBC.out w10 hk10.1
    have HK10 := Lib.hid hk10
    clear hb10 hk10
    go_wp2_with fail
    go_at_call 8
    (with_reducible refine (HP2.out _).mono ?_)
    rintro e w11 ⟨rfl, rfl⟩
    go_wp2_with fail
    go_at_call 8
    (with_reducible refine (HP3.out _).mono ?_)
    rintro e w11 ⟨rfl, rfl⟩
    go_wp2_with fail
    go_at_call 12
    (with_reducible refine (HC3.out _ _ (HK10.out.is (by simp))).mono ?_)
    rintro e w11 ⟨r4, rfl, hr11, hb11⟩
    have HK11 := Lib.hid (HK10.out.made K hr11 hb11)
    clear hr11 hb11 c1 c2
    go_wp2_with fail
    go_at_call 12
    (with_reducible refine (HC4.out _ _ (HK11.out.is (by simp))).mono ?_)
    rintro e w12 ⟨r5, rfl, hr12, hb12⟩
    have HK12 := Lib.hid (HK11.out.made K hr12 hb12)
    clear hr12 hb12
    go_wp2_with fail
    go_at_call 15
    (with_reducible refine (HAL.out _).mono ?_)
    rintro e w13 ⟨rfl, hb13⟩
    have HK13 := Lib.hid (HK12.out.later K hb13)
    clear hb13
    go_wp2_with fail
    go_at_call 19
    (with_reducible refine (HTM.out _ _ (HK13.out.is (by simp))).mono ?_)
    rintro e w14 ⟨rfl, hb14⟩
    have HK14 := Lib.hid (HK13.out.later K hb14)
    clear hb14
    go_wp2_with fail
    go_at_call 19
    (with_reducible refine (HTM.out _ _ (HK14.out.is (by simp))).mono ?_)
    rintro e w15 ⟨rfl, hb15⟩
    have HK15 := Lib.hid (HK14.out.later K hb15)
    clear hb15
    go_wp2_with fail
    go_at_call 18
    (with_reducible refine (HLM.out _ _ (HK15.out.is (by simp))).mono ?_)
    rintro e w16 ⟨rfl, hb16⟩
    have HK16 := Lib.hid (HK15.out.later K hb16)
    clear hb16
    go_wp2_with fail
    go_ret
    exact ⟨rfl, HB0.out.trans (HK16.out.1.mono HB0.out.size)⟩
end
end Go.Proofs.Ytfibclaojdoonaa

/-
  The program's cut: a rope of some of a rope's bytes. Condition: the rope is no longer than 65536 bytes, and some bytes are cut.
-/
import Derived.Test.YtfibclaojdoonaaRdiv
namespace Go.Proofs.Ytfibclaojdoonaa
open Go.RowKit Go.Deep

theorem drop_take_len {l : List UInt8} {i j : Nat} (h : j ≤ l.length) : ((l.take j).drop i).length = j - i := by rw [List.length_drop, List.length_take, Nat.min_eq_left h]
theorem cut_left {a b : List UInt8} {i j : Nat} (h : j ≤ a.length) : ((a ++ b).take j).drop i = (a.take j).drop i := by rw [List.take_append_of_le_length h]
theorem cut_right {a b : List UInt8} {i j : Nat} (h : a.length ≤ i) : ((a ++ b).take j).drop i = (b.take (j - a.length)).drop (i - a.length) := by
  rw [List.take_append, List.drop_append, List.drop_of_length_le (by rw [List.length_take]; omega), List.nil_append, List.length_take]
  by_cases hj : a.length ≤ j
  · rw [Nat.min_eq_right hj]
  · rw [Nat.min_eq_left (by omega), show j - a.length = 0 by omega, List.take_zero, List.drop_nil, List.drop_nil]
theorem cut_both {a b : List UInt8} {i j : Nat} (h1 : i ≤ a.length) (h2 : a.length ≤ j) : ((a ++ b).take j).drop i = (a.take a.length).drop i ++ (b.take (j - a.length)).drop 0 := by
  rw [List.take_append, List.take_of_length_le h2, List.take_length, List.drop_zero, List.drop_append_of_le_length h1]

set_option maxRecDepth 100000 in
set_option maxHeartbeats 4000000 in
theorem cut_any (t : RT) : ∀ (w : World) (x i j : Nat), IsRT w x t → t.ok → t.text.length ≤ 65536 → i < j → j ≤ t.text.length →
    Calls Try.prog 25 #[.pointer (some ⟨x, 0, none⟩), .int .i64 (i : Int), .int .i64 (j : Int)] w (MadeText ((t.text.take j).drop i) w) := by
  induction t with
  | part s =>
    intro w x i j ht kt hl hij hj
    have c0 : w.cell? ⟨x, 0, none⟩ = some (.string (txt s)) := cell_of_obj ht 0
    have c3 := ht.sizeC
    have c5 : w.cell? ⟨x, 5, none⟩ = some (.int .i64 0) := ht.depthC
    simp only [RT.text] at hl hj c3
    obtain ⟨n, en⟩ : ∃ n, n = s.length := ⟨_, rfl⟩
    obtain ⟨S, eS⟩ : ∃ S, S = txt s := ⟨_, rfl⟩
    rw [← en] at c3 hj
    rw [← eS] at c0
    by_cases h0 : i = 0 ∧ j = n
    · obtain ⟨rfl, rfl⟩ := h0
      have HT := Lib.hid ht
      have HE := Lib.hid en
      clear ht kt hl hij hj en eS c0
      go_enter Try.func25, Try.ntmps25
      go_wp2_with fail
      go_ret
      exact ⟨.part s, trivial, by simp only [RT.text]; rw [HE.out, List.take_length, List.drop_zero], x, rfl, HT.out, Below.refl _ _⟩
    · have hsl := fun W => str_slice eS (a := i) (b := j) (by omega) (by omega) W
      obtain ⟨D, eD⟩ : ∃ D, D = txt ((s.take j).drop i) := ⟨_, rfl⟩
      rw [← eD] at hsl
      have HP := Lib.hid fun (W : World) => part_new ((s.take j).drop i) D eD W (by rw [drop_take_len (by omega)]; omega)
      have g0 : ((i : Int) == 0) = true ∧ ((j : Int) == (n : Int)) = false ∨ ((i : Int) == 0) = false := by
        by_cases hi : i = 0
        · left; simp [hi]; omega
        · right; simp [hi]
      have hiI : (i : Int) ≤ (j : Int) := by omega
      clear ht kt hl hij hj en eS eD h0
      rcases g0 with ⟨g1i, g2i⟩ | g1i <;>
      ( go_enter Try.func25, Try.ntmps25
        go_wp2_with fail
        go_at_call 24
        (with_reducible refine (HP.out _).mono ?_)
        rintro e w1 ⟨u, rfl, hu, hb1⟩
        have HU := Lib.hid hu
        have HB := Lib.hid hb1
        clear hu hb1
        go_wp2_with fail
        go_ret
        exact ⟨.part _, trivial, rfl, u, rfl, HU.out, HB.out⟩ )
  | node l r ihl ihr =>
    intro w x i j ht kt hl hij hj
    have c3 := ht.sizeC
    have c5 := ht.depthC
    obtain ⟨xl, xr, hx, hL, hR⟩ := ht
    obtain ⟨nl, nr, kl, kr⟩ := kt
    have hln := RT.len_pos nl
    have hrn := RT.len_pos nr
    obtain ⟨c1, c2⟩ := node_cells hx (Below.refl _ w)
    have m3 := hL.sizeC
    obtain ⟨n, en⟩ : ∃ n, n = (RT.node l r).text.length := ⟨_, rfl⟩
    obtain ⟨d, ed⟩ : ∃ d, d = (RT.node l r).depth := ⟨_, rfl⟩
    obtain ⟨m, em⟩ : ∃ m, m = l.text.length := ⟨_, rfl⟩
    rw [← en] at c3
    rw [← ed] at c5
    rw [← em] at m3
    rw [← en] at hl hj
    have hn : n = m + r.text.length := by rw [en, em]; simp [RT.text]
    have gd : ((d : Int) == 0) = false := by simp only [RT.depth] at ed; simp; omega
    by_cases h0 : i = 0 ∧ j = n
    · obtain ⟨rfl, rfl⟩ := h0
      have HT := Lib.hid (show IsRT w x (.node l r) from ⟨xl, xr, hx, hL, hR⟩)
      have HK := Lib.hid (show (RT.node l r).ok from ⟨nl, nr, kl, kr⟩)
      have HE := Lib.hid en
      clear hx hL hR nl nr kl kr hln hrn c1 c2 m3 en ed em hl hij hj hn ihl ihr
      go_enter Try.func25, Try.ntmps25
      go_wp2_with fail
      go_ret
      exact ⟨.node l r, HK.out, by rw [HE.out, List.take_length, List.drop_zero], x, rfl, HT.out, Below.refl _ _⟩
    · have g0 : ((i : Int) == 0) = true ∧ ((j : Int) == (n : Int)) = false ∨ ((i : Int) == 0) = false := by
        by_cases hi : i = 0
        · left; simp [hi]; omega
        · right; simp [hi]
      by_cases h1 : j ≤ m
      · have HC := Lib.hid fun (W : World) (hB : Below w.heap.size w W) => ihl W xl i j (hL.below hB) kl (by omega) hij (by omega)
        have HE := Lib.hid (cut_left (b := r.text) (i := i) (show j ≤ l.text.length by omega))
        have g3 : decide ((j : Int) ≤ (m : Int)) = true := by simp; omega
        have g3n : decide (j ≤ m) = true := by simp; omega
        clear hx hL hR nl nr kl kr hln hrn c2 en ed em hl hij hj hn ihl ihr h0 h1
        rcases g0 with ⟨g1i, g2i⟩ | g1i <;>
        ( go_enter Try.func25, Try.ntmps25
          go_wp2_with fail
          go_at_call 25
          (with_reducible refine (HC.out _ (Below.refl _ _)).mono ?_)
          rintro e w1 ⟨t, kt, et, u, rfl, hu, hb1⟩
          have HU := Lib.hid hu
          have HB := Lib.hid hb1
          have HT := Lib.hid (And.intro kt et)
          clear hu hb1 kt et
          go_wp2_with fail
          go_ret
          exact ⟨t, HT.out.1, by simp only [RT.text]; rw [HT.out.2, HE.out], u, rfl, HU.out, HB.out⟩ )
      · have g3 : decide ((j : Int) ≤ (m : Int)) = false := by simp; omega
        have g3n : decide (j ≤ m) = false := by simp; omega
        by_cases h2 : m ≤ i
        · obtain ⟨i2, ei2⟩ : ∃ k, k = i - m := ⟨_, rfl⟩
          obtain ⟨j2, ej2⟩ : ∃ k, k = j - m := ⟨_, rfl⟩
          have q1 : IntKind.i64.wrap ((i : Int) - (m : Int)) = (i2 : Int) := by rw [show (i : Int) - (m : Int) = (i2 : Int) by omega]; exact IntWalk.i64_in _ (by omega)
          have q2 : IntKind.i64.wrap ((j : Int) - (m : Int)) = (j2 : Int) := by rw [show (j : Int) - (m : Int) = (j2 : Int) by omega]; exact IntWalk.i64_in _ (by omega)
          have e1 : (i : Int) - (m : Int) = (i2 : Int) := by omega
          have e2 : (j : Int) - (m : Int) = (j2 : Int) := by omega
          have HC := Lib.hid fun (W : World) (hB : Below w.heap.size w W) => ihr W xr i2 j2 (hR.below hB) kr (by omega) (by omega) (by omega)
          have HE := Lib.hid (show ((l.text ++ r.text).take j).drop i = (r.text.take j2).drop i2 by rw [ei2, ej2, em]; exact cut_right (by omega))
          have g4 : decide ((m : Int) ≤ (i : Int)) = true := by simp; omega
          have g4n : decide (m ≤ i) = true := by simp; omega
          have hmi : (m : Int) ≤ (i : Int) := by omega
          have hij2 : (i : Int) ≤ 65536 := by omega
          have hjj2 : (j : Int) ≤ 65536 := by omega
          clear hx hL hR nl nr kl kr hln hrn en ed em hl hij hj hn ihl ihr h0 h1 ei2 ej2 h2
          rcases g0 with ⟨g1i, g2i⟩ | g1i <;>
          ( go_enter Try.func25, Try.ntmps25
            go_wp2_with fail
            go_at_call 25
            (with_reducible refine (HC.out _ (Below.refl _ _)).mono ?_)
            rintro e w1 ⟨t, kt, et, u, rfl, hu, hb1⟩
            have HU := Lib.hid hu
            have HB := Lib.hid hb1
            have HT := Lib.hid (And.intro kt et)
            clear hu hb1 kt et
            go_wp2_with fail
            go_ret
            exact ⟨t, HT.out.1, by simp only [RT.text]; rw [HT.out.2, HE.out], u, rfl, HU.out, HB.out⟩ )
        · obtain ⟨j2, ej2⟩ : ∃ k, k = j - m := ⟨_, rfl⟩
          have q2 : IntKind.i64.wrap ((j : Int) - (m : Int)) = (j2 : Int) := by rw [show (j : Int) - (m : Int) = (j2 : Int) by omega]; exact IntWalk.i64_in _ (by omega)
          have HC1 := Lib.hid fun (W : World) (hB : Below w.heap.size w W) => ihl W xl i m (hL.below hB) kl (by omega) (by omega) (by omega)
          have HC2 := Lib.hid fun (W : World) (hB : Below w.heap.size w W) => by
            have h := ihr W xr 0 j2 (hR.below hB) kr (by omega) (by omega) (by omega)
            rw [show ((0 : Nat) : Int) = 0 from rfl] at h
            exact h
          have HJ := Lib.hid fun (W : World) (u v : Nat) (a b : RT) (ha : IsRT W u a) (hb : IsRT W v b) (ka : a.ok) (kb : b.ok) (ea : a.text = (l.text.take m).drop i) (eb : b.text = (r.text.take j2).drop 0) =>
            joined_any ha hb ka kb (by rw [ea]; intro e; have := congrArg List.length e; rw [drop_take_len (by omega), List.length_nil] at this; omega) (by rw [eb]; intro e; have := congrArg List.length e; rw [drop_take_len (by omega), List.length_nil] at this; omega) (by rw [ea, eb, drop_take_len (by omega), drop_take_len (by omega)]; omega)
          have HE := Lib.hid (show ((l.text ++ r.text).take j).drop i = (l.text.take m).drop i ++ (r.text.take j2).drop 0 by rw [ej2, em]; exact cut_both (by omega) (by omega))
          have HN := Lib.hid fun (W : World) (hB : Below w.heap.size w W) => node_cells hx hB
          have g4 : decide ((m : Int) ≤ (i : Int)) = false := by simp; omega
          have g4n : decide (m ≤ i) = false := by simp; omega
          have HBD := Lib.hid (Below.refl w.heap.size w).drew
          clear hx hL hR nl nr kl kr hln hrn en ed em hl hij hj hn ihl ihr h0 h1 ej2 h2
          rcases g0 with ⟨g1i, g2i⟩ | g1i <;>
          ( go_enter Try.func25, Try.ntmps25
            go_wp2_with fail
            go_region_held3 (fun wx => wx.cell? ⟨x, 1, none⟩ = some (.pointer (some ⟨xl, 0, none⟩)) ∧ wx.cell? ⟨x, 2, none⟩ = some (.pointer (some ⟨xr, 0, none⟩)))
              ((first | assumption | exact ⟨c1, c2⟩ | exact HN.out _ HD1.out | exact HN.out _ HD2.out | exact HN.out _ HD3.out))
              (first
                | (go_at_call 25; (with_reducible refine (HC1.out _ HBD.out).mono ?_); rintro e w1 ⟨a, ka, ea, u, rfl, hu, hb1⟩; have HD1 := Lib.hid (HBD.out.trans (hb1.mono HBD.out.size)); have HU := Lib.hid hu; have HA := Lib.hid (And.intro ka ea); clear hu hb1 ka ea)
                | (go_at_call 25; (with_reducible refine (HC2.out _ HD1.out).mono ?_); rintro e w2 ⟨b, kb, eb, v, rfl, hv, hb2⟩; have HD2 := Lib.hid (HD1.out.trans (hb2.mono HD1.out.size)); have HU2 := Lib.hid (HU.out.below hb2); have HV := Lib.hid hv; have HB := Lib.hid (And.intro kb eb); clear hv hb2 kb eb)
                | (go_at_call 23; (with_reducible refine (HJ.out _ _ _ a b HU2.out HV.out HA.out.1 HB.out.1 HA.out.2 HB.out.2).mono ?_); rintro e w3 ⟨t, kt, et, z, rfl, hz, hb3⟩; have HD3 := Lib.hid (HD2.out.trans (hb3.mono HD2.out.size)); have HZ := Lib.hid hz; have HT := Lib.hid (And.intro kt et); clear hz hb3 kt et))
            go_wp2_with fail
            go_ret
            exact ⟨t, HT.out.1, by simp only [RT.text]; rw [HT.out.2, HA.out.2, HB.out.2, HE.out], _, rfl, HZ.out, HD3.out⟩ )
end Go.Proofs.Ytfibclaojdoonaa

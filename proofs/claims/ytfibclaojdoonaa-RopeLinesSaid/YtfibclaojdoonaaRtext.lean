/-
  The program's Text and Line. Condition: the rope is no longer than 65536 bytes.
-/
import Derived.Test.YtfibclaojdoonaaRcopy
import Derived.Test.YtfibclaojdoonaaRbeh
namespace Go.Proofs.Ytfibclaojdoonaa
open Go.RowKit Go.Deep

theorem copied_is {w : World} {p : Option Addr} {l : List UInt8} (h : RopeIs w p l) (i j : Nat) (hij : i ≤ j) (hj : j ≤ l.length) :
    Calls Try.prog 29 #[.pointer p, .int .i64 (i : Int), .int .i64 (j : Int)] w (Answers (.string (txt ((l.take j).drop i))) w) := by
  obtain ⟨hl, ⟨rfl, rfl⟩ | ⟨b, t, rfl, ht, _, rfl⟩⟩ := h
  · have hj0 : j = 0 := by simpa using hj
    have hi0 : i = 0 := by omega
    subst hj0
    subst hi0
    exact copied_pcs w none _ _ 0 [] (by simp) (by omega) (.inl ⟨rfl, by omega, rfl⟩) (by simp)
  · have hf := pcs_flat t (i : Int) (j : Int) (by omega) (by omega) hl
    rw [Int.toNat_natCast, Int.toNat_natCast] at hf
    rw [← hf]
    exact copied_pcs w _ _ _ (j - i) _ (by omega) (by omega) (.inr ⟨b, t, rfl, ht, by omega, by omega, by omega, hl, rfl⟩) (pcs_le t _ _ (by omega) (by omega) hl)

set_option maxHeartbeats 1000000 in
theorem text_is {w : World} {p : Option Addr} {l : List UInt8} (h : RopeIs w p l) : Calls Try.prog 19 #[.pointer p] w (Answers (.string (txt l)) w) := by
  have HLEN := Lib.hid (len_is h)
  have hc := copied_is h 0 l.length (by omega) (Nat.le_refl _)
  rw [List.take_length, List.drop_zero, show ((0 : Nat) : Int) = 0 from rfl] at hc
  obtain ⟨n, en⟩ : ∃ n, n = l.length := ⟨_, rfl⟩
  rw [← en] at hc HLEN
  have HC := Lib.hid hc
  clear hc h en
  go_enter Try.func19, Try.ntmps19
  go_wp2_with fail
  go_at_call 18
  (with_reducible refine HLEN.out.mono ?_)
  rintro e w1 ⟨rfl, rfl⟩
  go_wp2_with fail
  go_at_call 29
  (with_reducible refine HC.out.mono ?_)
  rintro e w1 ⟨rfl, hb⟩
  have HB := Lib.hid hb
  clear hb
  go_wp2_with fail
  go_ret
  exact ⟨rfl, HB.out⟩

theorem lineAns_neg {l : List UInt8} {n : Int} (h : n < 0) : lineAns l n = ([], false, 61) := by
  unfold lineAns
  rw [if_neg (by omega)]
theorem lineAns_over {l : List UInt8} {n : Nat} (h : (lns l).length ≤ n) : lineAns l (n : Int) = ([], false, 61) := by
  unfold lineAns
  rw [if_pos (by omega), Int.toNat_natCast, List.getElem?_eq_none h]
theorem bh_mid {l : List UInt8} {n : Nat} (h : n < feeds l) : ∃ i, bh l (n + 1) = i + 1 ∧ bh l n ≤ i ∧ i < l.length ∧ l[i]? = some 10 := by
  obtain ⟨i, h1, h2, _⟩ := bh_all l (n + 1) (by omega) h
  obtain ⟨_, h3⟩ := indexByte_bh (l.drop (bh l n)) (by rw [feeds_drop_bh l n (by omega)]; omega)
  have h4 := bh_succ l n h
  exact ⟨i, h1, by omega, (List.getElem?_eq_some_iff.1 h2).1, h2⟩
theorem lineAns_feed {l : List UInt8} {n : Nat} (h : n < feeds l) : lineAns l (n : Int) = ((l.take (bh l (n + 1) - 1)).drop (bh l n), true, 0) := by
  obtain ⟨i, h1, h2, _, h3⟩ := bh_mid h
  unfold lineAns
  rw [if_pos (by omega), Int.toNat_natCast, lns_bh l n h, h1, seg_succ h2 h3]
  simp only
  rw [if_pos (by simp), List.dropLast_concat, Nat.add_sub_cancel]
theorem rest_le (l : List UInt8) : rest l ≤ 1 := by
  unfold rest
  split
  · omega
  · split <;> omega
theorem lineAns_last {l : List UInt8} (h : rest l = 1) : bh l (feeds l) < l.length ∧ lineAns l (feeds l : Int) = ((l.take l.length).drop (bh l (feeds l)), false, 0) := by
  have hne : l ≠ [] := fun e => by rw [e] at h; simp [rest] at h
  have hlt : bh l (feeds l) < l.length := by
    by_cases h0 : feeds l = 0
    · rw [h0, bh_zero]
      exact List.length_pos_iff.2 hne
    · obtain ⟨i, h1, h2, _⟩ := bh_all l (feeds l) (by omega) (Nat.le_refl _)
      have hi := (List.getElem?_eq_some_iff.1 h2).1
      rw [h1]
      by_cases hl : i + 1 = l.length
      · unfold rest at h
        rw [List.getLast?_eq_getElem?, show l.length - 1 = i by omega, h2] at h
        simp at h
      · omega
  refine ⟨hlt, ?_⟩
  unfold lineAns
  rw [if_pos (by omega), Int.toNat_natCast, lns_bh_last l hlt, List.take_length]
  simp only
  rw [if_neg]
  intro e
  have hm := List.mem_of_getLast? e
  have hz := feeds_drop_bh l (feeds l) (Nat.le_refl _)
  rw [Nat.sub_self] at hz
  unfold feeds at hz
  rw [List.count_eq_zero] at hz
  exact hz hm

set_option maxRecDepth 100000 in
set_option maxHeartbeats 2000000 in
theorem line_is {w : World} {p : Option Addr} {l : List UInt8} (n : Int) (h : RopeIs w p l) : Calls Try.prog 17 #[.pointer p, .int .i64 n] w (LineIs (lineAns l n) w) := by
  by_cases hneg : n < 0
  · rw [lineAns_neg hneg]
    have g1 : decide (n < 0) = true := by simp [hneg]
    clear h hneg
    go_enter Try.func17, Try.ntmps17
    go_wp2_with fail
    go_ret3
    exact ⟨rfl, Below.refl _ _⟩
  · obtain ⟨k, rfl⟩ := Int.eq_ofNat_of_zero_le (show 0 ≤ n by omega)
    have g1 : decide ((k : Int) < 0) = false := by simp
    have HLS := Lib.hid (lines_is h)
    obtain ⟨N, eN⟩ : ∃ N, N = (lns l).length := ⟨_, rfl⟩
    rw [← eN] at HLS
    by_cases hov : N ≤ k
    · rw [lineAns_over (by omega)]
      have g2 : decide ((N : Int) ≤ (k : Int)) = true := by simp; omega
      have g2n : decide (N ≤ k) = true := by simp; omega
      clear h hneg eN hov
      go_enter Try.func17, Try.ntmps17
      go_wp2_with fail
      go_at_call 16
      (with_reducible refine HLS.out.mono ?_)
      rintro e w1 ⟨rfl, hb⟩
      have HB := Lib.hid hb
      clear hb
      go_wp2_with fail
      go_ret3
      exact ⟨rfl, HB.out⟩
    · have g2 : decide ((N : Int) ≤ (k : Int)) = false := by simp; omega
      have g2n : decide (N ≤ k) = false := by simp; omega
      have hll := length_lns l
      have hr1 := rest_le l
      have h' := h
      obtain ⟨hle, ⟨_, e⟩ | ⟨b, t, rfl, ht, kt, et⟩⟩ := h
      · rw [e] at hll eN
        simp [lns] at eN
        omega
      · have hkf : k ≤ feeds l := by omega
        have hf64 : feeds l ≤ 65536 := Nat.le_trans (List.count_le_length) hle
        have HBH := Lib.hid fun (W : World) (hB : Below w.heap.size w W) => by
          have h := behind_is (ht.below hB) (by rw [et]; exact hle) k (by rw [et]; exact hkf)
          rw [et] at h
          exact h
        have HCP := Lib.hid fun (W : World) (i j : Nat) (hij : i ≤ j) (hj : j ≤ l.length) (hB : Below w.heap.size w W) => copied_is (h'.below hB) i j hij hj
        have HCL := Lib.hid fun (W : World) (hB : Below w.heap.size w W) => show W.cell? ⟨b, 3, none⟩ = some (.int .i64 (l.length : Int)) ∧ W.cell? ⟨b, 4, none⟩ = some (.int .i64 (feeds l : Int)) from
          ⟨by have := (ht.below hB).sizeC; rw [et] at this; exact this, by have := (ht.below hB).feedsC; rw [et] at this; exact this⟩
        obtain ⟨f, ef⟩ : ∃ f, f = feeds l := ⟨_, rfl⟩
        obtain ⟨m, em⟩ : ∃ f, f = l.length := ⟨_, rfl⟩
        rw [← ef] at HCL hkf hf64
        rw [← em] at HCL
        by_cases hlast : k = f
        · have g3 : ((k : Int) == (f : Int)) = true := by simp [hlast]
          obtain ⟨hlt, hans⟩ := lineAns_last (l := l) (by omega)
          rw [show (k : Int) = (feeds l : Int) by omega] at HBH
          rw [show (k : Int) = (feeds l : Int) by omega]
          rw [← ef] at HBH hlt hans ⊢
          rw [hans]
          have hkk : bh l k = bh l f := by rw [hlast]
          rw [hkk] at HBH
          obtain ⟨o, eo⟩ : ∃ o, o = bh l f := ⟨_, rfl⟩
          rw [← eo] at HBH hlt ⊢
          rw [← em] at hlt
          have HC2 := Lib.hid fun (W : World) (hB : Below w.heap.size w W) => by
            have h := HCP.out W o l.length (by omega) (Nat.le_refl _) hB
            rw [← em] at h
            exact h
          rw [← em]
          obtain ⟨S, eS⟩ : ∃ S, S = txt ((l.take m).drop o) := ⟨_, rfl⟩
          rw [← eS] at HC2
          have ES := Lib.hid eS
          have g3' : ((f : Int) == (f : Int)) = true := by simp
          have g1' : decide ((f : Int) < 0) = false := by simp
          have g2' : decide ((N : Int) ≤ (f : Int)) = false := by simp; omega
          have g2n' : decide (N ≤ f) = false := by simp; omega
          clear hneg eN hov hll hr1 h' hle ht kt et hkf hf64 HCP ef em hlast hlt hans hkk eo eS g1 g2 g2n g3
          go_enter Try.func17, Try.ntmps17
          go_wp2_with fail
          go_at_call 16
          (with_reducible refine HLS.out.mono ?_)
          rintro e w1 ⟨rfl, hb⟩
          have HB := Lib.hid hb
          clear hb
          go_wp2_with fail
          go_at_call 28
          (with_reducible refine (HBH.out _ HB.out).mono ?_)
          rintro e w2 ⟨rfl, hb⟩
          have HB2 := Lib.hid (HB.out.trans (hb.mono HB.out.size))
          obtain ⟨c3, c4⟩ := HCL.out w2 HB2.out
          clear hb
          go_wp2_with fail
          go_at_call 29
          (with_reducible refine (HC2.out _ HB2.out).mono ?_)
          rintro e w3 ⟨rfl, hb⟩
          have HB3 := Lib.hid (HB2.out.trans (hb.mono HB2.out.size))
          clear hb c3 c4
          go_wp2_with fail
          go_ret3
          exact ⟨by rw [ES.out]; rfl, HB3.out⟩
        · have g3 : ((k : Int) == (f : Int)) = false := by simp; omega
          have hkl : k < feeds l := by omega
          rw [lineAns_feed hkl]
          obtain ⟨i, h1, h2, h3, _⟩ := bh_mid hkl
          obtain ⟨k2, ek2⟩ : ∃ x, x = k + 1 := ⟨_, rfl⟩
          have HBH2 := Lib.hid fun (W : World) (hB : Below w.heap.size w W) => by
            have h := behind_is (ht.below hB) (by rw [et]; exact hle) k2 (by rw [et, ek2]; exact hkl)
            rw [et, ek2, h1, ← ek2] at h
            exact h
          rw [h1, Nat.add_sub_cancel]
          obtain ⟨o, eo⟩ : ∃ o, o = bh l k := ⟨_, rfl⟩
          rw [← eo] at HBH h2 ⊢
          have HC2 := Lib.hid fun (W : World) (hB : Below w.heap.size w W) => HCP.out W o i h2 (by omega) hB
          obtain ⟨i1, ei1⟩ : ∃ x, x = i + 1 := ⟨_, rfl⟩
          rw [← ei1] at HBH2
          have q1 : IntKind.i64.wrap ((k : Int) + 1) = (k2 : Int) := by rw [show (k : Int) + 1 = (k2 : Int) by omega]; exact IntWalk.i64_in _ (by omega)
          have q2 : IntKind.i64.wrap ((i1 : Int) - 1) = (i : Int) := by rw [show (i1 : Int) - 1 = (i : Int) by omega]; exact IntWalk.i64_in _ (by omega)
          have e1 : (k : Int) + 1 = (k2 : Int) := by omega
          have e2 : (i1 : Int) - 1 = (i : Int) := by omega
          have u1 : wrap64 (k2 : Int) = (k2 : Int) := IntWalk.wrap64_in _ (by omega)
          have u2 : wrap64 (i : Int) = (i : Int) := IntWalk.wrap64_in _ (by omega)
          obtain ⟨S, eS⟩ : ∃ S, S = txt ((l.take i).drop o) := ⟨_, rfl⟩
          rw [← eS] at HC2
          have ES := Lib.hid eS
          clear hneg eN hov hll hr1 h' hle ht kt et hkf hf64 HCP ef em hlast hkl h1 h2 h3 ek2 eo ei1 eS
          go_enter Try.func17, Try.ntmps17
          go_wp2_with fail
          go_at_call 16
          (with_reducible refine HLS.out.mono ?_)
          rintro e w1 ⟨rfl, hb⟩
          have HB := Lib.hid hb
          clear hb
          go_wp2_with fail
          go_at_call 28
          (with_reducible refine (HBH.out _ HB.out).mono ?_)
          rintro e w2 ⟨rfl, hb⟩
          have HB2 := Lib.hid (HB.out.trans (hb.mono HB.out.size))
          obtain ⟨c3, c4⟩ := HCL.out w2 HB2.out
          clear hb
          go_wp2_with fail
          go_at_call 28
          (with_reducible refine (HBH2.out _ HB2.out).mono ?_)
          rintro e w3 ⟨rfl, hb⟩
          have HB3 := Lib.hid (HB2.out.trans (hb.mono HB2.out.size))
          clear hb c3 c4
          go_wp2_with fail
          go_at_call 29
          (with_reducible refine (HC2.out _ HB3.out).mono ?_)
          rintro e w4 ⟨rfl, hb⟩
          have HB4 := Lib.hid (HB3.out.trans (hb.mono HB3.out.size))
          clear hb
          go_wp2_with fail
          go_ret3
          exact ⟨by rw [ES.out]; rfl, HB4.out⟩
end Go.Proofs.Ytfibclaojdoonaa

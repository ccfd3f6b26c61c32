/-
  The program's Lines and behind. Condition: the rope is no longer than 65536 bytes.
-/
import Derived.Test.YtfibclaojdoonaaRget
import Derived.Test.YtfibclaojdoonaaRwrite
namespace Go.Proofs.Ytfibclaojdoonaa
open Go.RowKit Go.Deep

set_option maxRecDepth 100000 in
set_option maxHeartbeats 2000000 in
theorem lines_is {w : World} {p : Option Addr} {l : List UInt8} (h : RopeIs w p l) : Calls Try.prog 16 #[.pointer p] w (Answers (.int .i64 ((lns l).length : Int)) w) := by
  have HLEN := Lib.hid (len_is h)
  have hll := length_lns l
  by_cases hl : l = []
  · subst hl
    have hi := index_out h (-1) (by omega)
    have HI := Lib.hid hi
    clear hi h hll
    rw [show (([] : List UInt8).length : Int) = 0 from rfl] at HLEN
    rw [show ((lns []).length : Int) = 0 from rfl]
    have q1 : IntKind.i64.wrap ((0 : Int) - 1) = -1 := by decide
    go_enter Try.func16, Try.ntmps16
    go_wp2_with fail
    go_at_call 18
    (with_reducible refine HLEN.out.mono ?_)
    rintro e w1 ⟨rfl, rfl⟩
    go_wp2_with fail
    go_at_call 20
    (with_reducible refine HI.out.mono ?_)
    rintro e w1 ⟨rfl, rfl⟩
    go_wp2_with fail
    go_ret
    exact ⟨rfl, Below.refl _ _⟩
  · have hpos := List.length_pos_iff.2 hl
    obtain ⟨hle, ⟨_, e⟩ | ⟨b, t, rfl, ht, kt, et⟩⟩ := h
    · exact absurd e hl
    · obtain ⟨c, hc⟩ : ∃ c, l.getLast? = some c := ⟨_, List.getLast?_eq_some_getLast hl⟩
      have hcl := hc
      rw [List.getLast?_eq_getElem?] at hc
      obtain ⟨n, en⟩ : ∃ n, n = l.length := ⟨_, rfl⟩
      obtain ⟨m, em⟩ : ∃ m, m = l.length - 1 := ⟨_, rfl⟩
      rw [← em] at hc
      rw [← en] at HLEN
      have q1 : IntKind.i64.wrap ((n : Int) - 1) = (m : Int) := by rw [show (n : Int) - 1 = (m : Int) by omega]; exact IntWalk.i64_in _ (by omega)
      have e1 : (n : Int) - 1 = (m : Int) := by omega
      have HI := Lib.hid (index_in ht kt (by rw [et]; exact hle) m c (by rw [et]; exact hc))
      obtain ⟨f, ef⟩ : ∃ f, f = feeds l := ⟨_, rfl⟩
      have hf : f ≤ 65536 := by rw [ef]; exact Nat.le_trans (List.count_le_length) hle
      have HF := Lib.hid fun (W : World) (hB : Below w.heap.size w W) => by
        have h := (ht.below hB).feedsC
        rw [et, ← ef] at h
        exact h
      rw [hll, ← ef]
      have hr : rest l = if c = 10 then 0 else 1 := by unfold rest; rw [hcl]
      have hnI : (n : Int) ≤ 65536 := by omega
      have hn1 : (1 : Int) ≤ (n : Int) := by omega
      clear hll hl hpos hle ht kt et hcl hc en em ef
      by_cases h10 : c = 10
      · rw [hr, if_pos h10, Nat.add_zero]
        have hx : ((c.toNat : Int) == 10) = true := by rw [h10]; rfl
        clear hr h10
        go_enter Try.func16, Try.ntmps16
        go_wp2_with fail
        go_at_call 18
        (with_reducible refine HLEN.out.mono ?_)
        rintro e w1 ⟨rfl, rfl⟩
        go_wp2_with fail
        go_at_call 20
        (with_reducible refine HI.out.mono ?_)
        rintro e w1 ⟨rfl, hb⟩
        have f1 := HF.out w1 hb
        have HB := Lib.hid hb
        clear hb
        go_wp2_with fail
        go_ret
        exact ⟨rfl, HB.out⟩
      · obtain ⟨f2, ef2⟩ : ∃ k, k = f + 1 := ⟨_, rfl⟩
        rw [hr, if_neg h10, ← ef2]
        have q2 : IntKind.i64.wrap ((f : Int) + 1) = (f2 : Int) := by rw [show (f : Int) + 1 = (f2 : Int) by omega]; exact IntWalk.i64_in _ (by omega)
        have hx : ((c.toNat : Int) == 10) = false := by
          have : c.toNat ≠ 10 := fun h => h10 (UInt8.toNat_inj.1 h)
          simp
          omega
        have e2 : (f : Int) + 1 = (f2 : Int) := by omega
        have hfI : (f : Int) ≤ 65536 := by omega
        clear hr h10 ef2
        go_enter Try.func16, Try.ntmps16
        go_wp2_with fail
        go_at_call 18
        (with_reducible refine HLEN.out.mono ?_)
        rintro e w1 ⟨rfl, rfl⟩
        go_wp2_with fail
        go_at_call 20
        (with_reducible refine HI.out.mono ?_)
        rintro e w1 ⟨rfl, hb⟩
        have f1 := HF.out w1 hb
        have HB := Lib.hid hb
        clear hb
        go_wp2_with fail
        go_ret
        exact ⟨rfl, HB.out⟩

set_option maxRecDepth 100000 in
set_option maxHeartbeats 4000000 in
theorem behind_is {w : World} {b0 : Nat} {t0 : RT} (h : IsRT w b0 t0) (hl : t0.text.length ≤ 65536) (k0 : Nat) (hk : k0 ≤ feeds t0.text) :
    Calls Try.prog 28 #[.pointer (some ⟨b0, 0, none⟩), .int .i64 (k0 : Int)] w (Answers (.int .i64 (bh t0.text k0 : Int)) w) := by
  have H := Lib.hid h
  have HK := Lib.hid (And.intro hl hk)
  clear h hl hk
  go_enter Try.func28, Try.ntmps28
  go_wp2_with fail
  go_loopg [0, 1, 5] (t0.depth) (fun g p kv bv wr => ∃ (b k o : Nat) (t : RT), p = .pointer (some ⟨b, 0, none⟩) ∧ kv = .int .i64 (k : Int) ∧ bv = .int .i64 (o : Int) ∧ t.depth ≤ g ∧ k ≤ feeds t.text ∧ o + t.text.length ≤ 65536 ∧ o + bh t.text k = bh t0.text k0 ∧ IsRT w b t ∧ Below w.heap.size w wr)
  case atStart => exact ⟨b0, k0, 0, t0, rfl, rfl, rfl, Nat.le_refl _, HK.out.2, by rw [Nat.zero_add]; exact HK.out.1, Nat.zero_add _, H.out, Below.refl _ _⟩
  case round =>
    obtain ⟨b, k, o, t, rfl, rfl, rfl, hd, hk, hl, ho, ht, hb⟩ := hrel
    have htr := ht.below hb
    have HB := Lib.hid hb
    cases t with
    | part s =>
      have c0 : wr.cell? ⟨b, 0, none⟩ = some (.string (txt s)) := cell_of_obj htr 0
      have c5 : wr.cell? ⟨b, 5, none⟩ = some (.int .i64 0) := htr.depthC
      obtain ⟨S, eS⟩ : ∃ S, S = txt s := ⟨_, rfl⟩
      rw [← eS] at c0
      simp only [RT.text] at hk hl ho
      have HR := Lib.hid (And.intro hk (And.intro hl (And.intro ho eS)))
      obtain ⟨W1, eW1⟩ : ∃ W1, W1 = wr := ⟨_, rfl⟩
      have HC0 := Lib.hid (show ∀ W : World, W = W1 → W.cell? ⟨b, 0, none⟩ = some (.string S) by rintro W rfl; rw [eW1]; exact c0)
      rw [← eW1] at HB
      have EW1 := Lib.hid eW1
      clear hd hk hl ho ht hb htr eS eW1
      go_wp2_with fail
      rw [← EW1.out]
      go_loopw [6, 48] (fun wv jv wx => ∃ j : Nat, wv = .int .i64 (bh s j : Int) ∧ jv = .int .i64 (j : Int) ∧ j ≤ k ∧ wx = W1) (fun _ jv _ => k - (intOf jv).toNat)
      case atStart => exact ⟨0, by rw [bh_zero]; rfl, rfl, Nat.zero_le _, rfl⟩
      case round =>
        obtain ⟨j, rfl, rfl, hj, rfl⟩ := hrel
        have cc := HC0.out _ rfl
        have ⟨hk, hl, ho, eS⟩ := HR.out
        have hwl := bh_le s j
        obtain ⟨wi, ewi⟩ : ∃ x, x = bh s j := ⟨_, rfl⟩
        rw [← ewi] at hwl ⊢
        by_cases hlt : j < k
        · have hfd : 0 < feeds (s.drop wi) := by rw [ewi, feeds_drop_bh s j (by omega)]; omega
          obtain ⟨_, hb1⟩ := indexByte_bh _ hfd
          have hbs := bh_succ s j (by omega)
          rw [← ewi] at hbs
          have hwl2 := bh_le s (j + 1)
          obtain ⟨c1, ec1⟩ : ∃ x, x = bh (s.drop wi) 1 := ⟨_, rfl⟩
          obtain ⟨z, ez⟩ : ∃ x, x = c1 - 1 := ⟨_, rfl⟩
          obtain ⟨wi2, ewi2⟩ : ∃ x, x = bh s (j + 1) := ⟨_, rfl⟩
          rw [← ec1] at hb1 hbs
          rw [← ewi2] at hbs hwl2
          have hsl := fun W => str_slice_from eS (a := wi) hwl W
          obtain ⟨D, eD⟩ : ∃ D, D = txt (s.drop wi) := ⟨_, rfl⟩
          rw [← eD] at hsl
          have HI := Lib.hid fun (W : World) => by
            have h := index_feed (s.drop wi) D eD W hfd
            rw [← ec1, show (c1 : Int) - 1 = (z : Int) by omega] at h
            exact h
          have q1 : IntKind.i64.wrap ((z : Int) + 1) = (c1 : Int) := by rw [show (z : Int) + 1 = (c1 : Int) by omega]; exact IntWalk.i64_in _ (by omega)
          have q2 : IntKind.i64.wrap ((wi : Int) + (c1 : Int)) = (wi2 : Int) := by rw [show (wi : Int) + (c1 : Int) = (wi2 : Int) by omega]; exact IntWalk.i64_in _ (by omega)
          have q3 : (z : Int) + 1 = (c1 : Int) := by omega
          have q4 : (wi : Int) + (c1 : Int) = (wi2 : Int) := by omega
          have w1 : wrap64 ((z : Int) + 1) = (c1 : Int) := by rw [q3]; exact IntWalk.wrap64_in _ (by omega)
          have w2 : wrap64 ((wi : Int) + (c1 : Int)) = (wi2 : Int) := by rw [q4]; exact IntWalk.wrap64_in _ (by omega)
          have g5 : decide ((j : Int) < (k : Int)) = true := by simp; omega
          have g5n : decide (j < k) = true := by simp; omega
          have hk40 : (k : Int) ≤ 65536 := by have := List.count_le_length (a := (10 : UInt8)) (l := s); unfold feeds at hk; omega
          have HE2 := Lib.hid ewi2
          have HQ := Lib.hid (And.intro q3 q4)
          clear hk hl ho eS hwl ewi hfd hb1 hbs hwl2 ec1 ez ewi2 eD q3 q4
          go_wp2_with fail
          go_at_call 34
          (with_reducible refine (HI.out _).mono ?_)
          rintro e w3 ⟨rfl, rfl⟩
          go_wp2_with fail
          go_roundw
          case rel => exact ⟨j + 1, by rw [← HE2.out], by go_num, by omega, by first | trivial | rfl⟩
          case measure => simp [intOf]; omega
        · have hjk : j = k := by omega
          subst hjk
          have g5 : decide ((j : Int) < (j : Int)) = false := by simp
          have hbo := bh_le t0.text k0
          have hbl := HK.out.1
          obtain ⟨B, eB⟩ : ∃ B, B = bh t0.text k0 := ⟨_, rfl⟩
          rw [← eB] at hbo
          have q1 : IntKind.i64.wrap ((o : Int) + (wi : Int)) = (B : Int) := by rw [show (o : Int) + (wi : Int) = (B : Int) by omega]; exact IntWalk.i64_in _ (by omega)
          have w1 : wrap64 ((o : Int) + (wi : Int)) = (B : Int) := by rw [show (o : Int) + (wi : Int) = (B : Int) by omega]; exact IntWalk.wrap64_in _ (by omega)
          have HE := Lib.hid eB
          clear hk hl ho eS hwl ewi hbo hbl eB
          go_wp2_with fail
          go_ret
          exact ⟨by rw [← HE.out]; rfl, HB.out⟩
    | node l r =>
      obtain ⟨xl, xr, hx, hL, hR⟩ := ht
      have hxr := Below.obj hb hx (lt_of_some hx)
      have c1 : wr.cell? ⟨b, 1, none⟩ = some (.pointer (some ⟨xl, 0, none⟩)) := cell_of_obj hxr 1
      have c2 : wr.cell? ⟨b, 2, none⟩ = some (.pointer (some ⟨xr, 0, none⟩)) := cell_of_obj hxr 2
      have c5 := htr.depthC
      have m3 := (hL.below hb).sizeC
      have m4 := (hL.below hb).feedsC
      obtain ⟨d, ed⟩ : ∃ d, d = (RT.node l r).depth := ⟨_, rfl⟩
      obtain ⟨m, em⟩ : ∃ m, m = l.text.length := ⟨_, rfl⟩
      obtain ⟨f, ef⟩ : ∃ m, m = feeds l.text := ⟨_, rfl⟩
      rw [← ed] at c5 hd
      rw [← em] at m3
      rw [← ef] at m4
      simp only [RT.text, List.length_append, feeds_append] at hk hl ho
      have g3 : decide (0 < (d : Int)) = true := by simp only [RT.depth] at ed; simp; omega
      have g3n : decide (0 < d) = true := by simp only [RT.depth] at ed; simp; omega
      have hdl : l.depth ≤ d - 1 := by simp only [RT.depth] at ed; omega
      have hdr : r.depth ≤ d - 1 := by simp only [RT.depth] at ed; omega
      have hd1 : d - 1 < gk := by simp only [RT.depth] at ed; omega
      have HL := Lib.hid hL
      have HR := Lib.hid hR
      have HDL := Lib.hid hdl
      have HDR := Lib.hid hdr
      have HD1 := Lib.hid hd1
      by_cases h1 : k ≤ f
      · have g4 : decide ((k : Int) ≤ (f : Int)) = true := by simp; omega
        have g4n : decide (k ≤ f) = true := by simp; omega
        have HC := Lib.hid (show k ≤ feeds l.text ∧ o + l.text.length ≤ 65536 ∧ o + bh l.text k = bh t0.text k0 from ⟨by omega, by omega, by rw [bh_left _ _ _ (by omega)] at ho; exact ho⟩)
        clear hd hk hl ho hb htr hx hL hR hxr ed em ef hdl hdr hd1 h1
        go_wp2_with fail
        go_roundg (d - 1)
        case measure => exact HD1.out
        case rel => exact ⟨xl, k, o, l, rfl, rfl, rfl, HDL.out, HC.out.1, HC.out.2.1, HC.out.2.2, HL.out, HB.out⟩
      · have g4 : decide ((k : Int) ≤ (f : Int)) = false := by simp; omega
        have g4n : decide (k ≤ f) = false := by simp; omega
        obtain ⟨k2, ek2⟩ : ∃ x, x = k - f := ⟨_, rfl⟩
        obtain ⟨o2, eo2⟩ : ∃ x, x = o + m := ⟨_, rfl⟩
        have hfk : feeds r.text ≤ 65536 := by have := List.count_le_length (a := (10 : UInt8)) (l := r.text); unfold feeds; omega
        have hfl : f ≤ 65536 := by have := List.count_le_length (a := (10 : UInt8)) (l := l.text); rw [ef]; unfold feeds; omega
        have q1 : IntKind.i64.wrap ((k : Int) - (f : Int)) = (k2 : Int) := by rw [show (k : Int) - (f : Int) = (k2 : Int) by omega]; exact IntWalk.i64_in _ (by omega)
        have q2 : IntKind.i64.wrap ((o : Int) + (m : Int)) = (o2 : Int) := by rw [show (o : Int) + (m : Int) = (o2 : Int) by omega]; exact IntWalk.i64_in _ (by omega)
        have HC := Lib.hid (show k2 ≤ feeds r.text ∧ o2 + r.text.length ≤ 65536 ∧ o2 + bh r.text k2 = bh t0.text k0 from ⟨by omega, by omega, by rw [bh_right _ _ _ (by omega)] at ho; rw [eo2, ek2, em, ef, ← ho]; omega⟩)
        clear hd hk hl ho hb htr hx hL hR hxr ed em ef hdl hdr hd1 h1 ek2 eo2 hfk hfl
        go_wp2_with fail
        go_quiet (fail)
        go_wp2_with fail
        go_roundg (d - 1)
        case measure => exact HD1.out
        case rel => exact ⟨xr, k2, o2, r, rfl, rfl, rfl, HDR.out, HC.out.1, HC.out.2.1, HC.out.2.2, HR.out, HB.out.trans ((below_drewN' _ _).mono HB.out.size)⟩
end Go.Proofs.Ytfibclaojdoonaa

/-
  The program's Len and Index, the loops that go down to a part. Condition: the rope is no longer than 65536 bytes.
-/
import Derived.Test.YtfibclaojdoonaaRjoin
import Derived.Deep.LoopGhost
namespace Go.Proofs.Ytfibclaojdoonaa
open Go.RowKit Go.Deep

/-- What a rope in memory says: none is the empty text. -/
def RopeIs (w : World) (p : Option Addr) (l : List UInt8) : Prop := l.length ≤ 65536 ∧ ((p = none ∧ l = []) ∨ ∃ b t, p = some ⟨b, 0, none⟩ ∧ IsRT w b t ∧ t.ok ∧ t.text = l)
theorem RopeIs.below {w w' : World} {p : Option Addr} {l : List UInt8} (h : RopeIs w p l) (hb : Below w.heap.size w w') : RopeIs w' p l := by
  obtain ⟨h1, h2 | ⟨b, t, e, h3, h4, h5⟩⟩ := h
  · exact ⟨h1, .inl h2⟩
  · exact ⟨h1, .inr ⟨b, t, e, h3.below hb, h4, h5⟩⟩

set_option maxHeartbeats 1000000 in
theorem len_is {w : World} {p : Option Addr} {l : List UInt8} (h : RopeIs w p l) : Calls Try.prog 18 #[.pointer p] w fun e w' => e = .returned (.int .i64 (l.length : Int)) ∧ w = w' := by
  obtain ⟨_, ⟨rfl, rfl⟩ | ⟨b, t, rfl, h3, _, rfl⟩⟩ := h
  · go_enter Try.func18, Try.ntmps18
    go_wp2_with fail
    go_ret
    exact ⟨rfl, rfl⟩
  · have c3 := h3.sizeC
    clear h3
    obtain ⟨n, en⟩ : ∃ n, n = t.text.length := ⟨_, rfl⟩
    rw [← en] at c3 ⊢
    clear en
    go_enter Try.func18, Try.ntmps18
    go_wp2_with fail
    go_ret
    exact ⟨rfl, rfl⟩

set_option maxRecDepth 100000 in
set_option maxHeartbeats 4000000 in
theorem index_in {w : World} {b0 : Nat} {t0 : RT} (h : IsRT w b0 t0) (hk : t0.ok) (hl : t0.text.length ≤ 65536) (i0 : Nat) (c : UInt8) (hc : t0.text[i0]? = some c) :
    Calls Try.prog 20 #[.pointer (some ⟨b0, 0, none⟩), .int .i64 (i0 : Int)] w fun e w' => e = .returned (.tuple #[.int .u8 (c.toNat : Int), .int .i64 0]) ∧ Below w.heap.size w w' := by
  have hi := (List.getElem?_eq_some_iff.1 hc).1
  have HLEN := Lib.hid (len_is (w := w) (p := some ⟨b0, 0, none⟩) (l := t0.text) ⟨hl, .inr ⟨b0, t0, rfl, h, hk, rfl⟩⟩)
  have g1 : decide ((i0 : Int) < 0) = false := by simp
  have g2 : decide ((t0.text.length : Int) ≤ (i0 : Int)) = false := by simp; omega
  have g2n : decide (t0.text.length ≤ i0) = false := by simp; omega
  obtain ⟨n, en⟩ : ∃ n, n = t0.text.length := ⟨_, rfl⟩
  rw [← en] at HLEN g2 g2n
  have H := Lib.hid h
  have HK := Lib.hid (And.intro hk (And.intro hl hc))
  clear h hk hl hc hi en
  go_enter Try.func20, Try.ntmps20
  go_wp2_with fail
  go_at_call 18
  (with_reducible refine HLEN.out.mono ?_)
  rintro e w1 ⟨rfl, rfl⟩
  go_wp2_with fail
  go_loopg [0, 1] (t0.depth) (fun k p iv wr => ∃ (b i : Nat) (t : RT), p = .pointer (some ⟨b, 0, none⟩) ∧ iv = .int .i64 (i : Int) ∧ t.depth ≤ k ∧ t.text.length ≤ 65536 ∧ t.text[i]? = some c ∧ IsRT w b t ∧ Below w.heap.size w wr)
  case atStart => exact ⟨b0, i0, t0, rfl, rfl, Nat.le_refl _, HK.out.2.1, HK.out.2.2, H.out, Below.refl _ _⟩
  case round =>
    obtain ⟨b, i, t, rfl, rfl, hd, hl, hc, ht, hb⟩ := hrel
    have htr := ht.below hb
    have HB := Lib.hid hb
    cases t with
    | part s =>
      have c0 : wr.cell? ⟨b, 0, none⟩ = some (.string (txt s)) := cell_of_obj htr 0
      have c5 : wr.cell? ⟨b, 5, none⟩ = some (.int .i64 0) := htr.depthC
      obtain ⟨S, eS⟩ : ∃ S, S = txt s := ⟨_, rfl⟩
      rw [← eS] at c0
      simp only [RT.text] at hc
      have hi := (List.getElem?_eq_some_iff.1 hc).1
      have hiS : i < S.size := by rw [eS, size_txt]; exact hi
      have hiI : (i : Int) < (S.size : Int) := by omega
      have hi0 : (0 : Int) ≤ (i : Int) := by omega
      have hg := txt_get eS i hiS
      rw [hg] at hc
      have HE := Lib.hid (Option.some.inj hc)
      clear hd hl hc ht hb htr eS hi hg
      go_wp2_with fail
      go_ret2
      exact ⟨by rw [HE.out]; rfl, HB.out⟩
    | node l r =>
      obtain ⟨xl, xr, hx, hL, hR⟩ := ht
      have hxr := Below.obj hb hx (lt_of_some hx)
      have c1 : wr.cell? ⟨b, 1, none⟩ = some (.pointer (some ⟨xl, 0, none⟩)) := cell_of_obj hxr 1
      have c2 : wr.cell? ⟨b, 2, none⟩ = some (.pointer (some ⟨xr, 0, none⟩)) := cell_of_obj hxr 2
      have c5 := htr.depthC
      have m3 := (hL.below hb).sizeC
      obtain ⟨d, ed⟩ : ∃ d, d = (RT.node l r).depth := ⟨_, rfl⟩
      obtain ⟨m, em⟩ : ∃ m, m = l.text.length := ⟨_, rfl⟩
      rw [← ed] at c5 hd
      rw [← em] at m3
      simp only [RT.text, List.length_append] at hc hl
      have g3 : decide (0 < (d : Int)) = true := by simp only [RT.depth] at ed; simp; omega
      have g3n : decide (0 < d) = true := by simp only [RT.depth] at ed; simp; omega
      have hdl : l.depth ≤ d - 1 := by simp only [RT.depth] at ed; omega
      have hdr : r.depth ≤ d - 1 := by simp only [RT.depth] at ed; omega
      have hd1 : d - 1 < gk := by simp only [RT.depth] at ed; omega
      have HLL := Lib.hid (show l.text.length ≤ 65536 ∧ r.text.length ≤ 65536 by omega)
      have HL := Lib.hid hL
      have HR := Lib.hid hR
      have HDL := Lib.hid hdl
      have HDR := Lib.hid hdr
      have HD1 := Lib.hid hd1
      by_cases h1 : i < m
      · have g4 : decide ((i : Int) < (m : Int)) = true := by simp; omega
        have g4n : decide (i < m) = true := by simp; omega
        have HC := Lib.hid (show l.text[i]? = some c by rw [List.getElem?_append_left (by omega)] at hc; exact hc)
        clear hd hl hc hb htr hx hL hR hxr ed em hdl hdr hd1 h1
        go_wp2_with fail
        go_roundg (d - 1)
        case measure => exact HD1.out
        case rel => exact ⟨xl, i, l, rfl, rfl, HDL.out, HLL.out.1, HC.out, HL.out, HB.out⟩
      · have g4 : decide ((i : Int) < (m : Int)) = false := by simp; omega
        have g4n : decide (i < m) = false := by simp; omega
        obtain ⟨i2, ei2⟩ : ∃ k, k = i - m := ⟨_, rfl⟩
        have hi := (List.getElem?_eq_some_iff.1 hc).1
        rw [List.length_append] at hi
        have q1 : IntKind.i64.wrap ((i : Int) - (m : Int)) = (i2 : Int) := by rw [show (i : Int) - (m : Int) = (i2 : Int) by omega]; exact IntWalk.i64_in _ (by omega)
        have HC := Lib.hid (show r.text[i2]? = some c by rw [List.getElem?_append_right (by omega)] at hc; rw [ei2, em]; exact hc)
        clear hd hl hc hb htr hx hL hR hxr ed em hdl hdr hd1 h1 ei2 hi
        go_wp2_with fail
        go_quiet (fail)
        go_wp2_with fail
        go_roundg (d - 1)
        case measure => exact HD1.out
        case rel => exact ⟨xr, i2, r, rfl, rfl, HDR.out, HLL.out.2, HC.out, HR.out, HB.out.trans ((below_drewN' _ _).mono HB.out.size)⟩

set_option maxHeartbeats 1000000 in
theorem index_out {w : World} {p : Option Addr} {l : List UInt8} (h : RopeIs w p l) (n : Int) (hn : ¬ (0 ≤ n ∧ n < (l.length : Int))) :
    Calls Try.prog 20 #[.pointer p, .int .i64 n] w fun e w' => e = .returned (.tuple #[.int .u8 0, .int .i64 61]) ∧ w = w' := by
  have HLEN := Lib.hid (len_is h)
  obtain ⟨m, em⟩ : ∃ m, m = l.length := ⟨_, rfl⟩
  rw [← em] at HLEN hn
  clear h em
  by_cases h0 : n < 0
  · have g1 : decide (n < 0) = true := by simp; omega
    clear h0 hn
    go_enter Try.func20, Try.ntmps20
    go_wp2_with fail
    go_ret2
    exact ⟨rfl, rfl⟩
  · have g1 : decide (n < 0) = false := by simp; omega
    have g2 : decide ((m : Int) ≤ n) = true := by simp; omega
    clear h0 hn
    go_enter Try.func20, Try.ntmps20
    go_wp2_with fail
    go_at_call 18
    (with_reducible refine HLEN.out.mono ?_)
    rintro e w1 ⟨rfl, rfl⟩
    go_wp2_with fail
    go_ret2
    exact ⟨rfl, rfl⟩
theorem index_any {w : World} {p : Option Addr} {l : List UInt8} (n : Int) (h : RopeIs w p l) :
    Calls Try.prog 20 #[.pointer p, .int .i64 n] w (Answers (.tuple #[.int .u8 ((indexAns l n).1.toNat : Int), .int .i64 (indexAns l n).2]) w) := by
  by_cases hn : 0 ≤ n ∧ n < (l.length : Int)
  · obtain ⟨m, rfl⟩ := Int.eq_ofNat_of_zero_le hn.1
    have hm : m < l.length := by omega
    obtain ⟨c, hc⟩ : ∃ c, l[m]? = some c := ⟨_, List.getElem?_eq_getElem hm⟩
    have e : indexAns l (m : Int) = (c, 0) := by
      unfold indexAns
      rw [if_pos (by omega), Int.toNat_natCast, hc]
    rw [e]
    obtain ⟨hl, ⟨rfl, rfl⟩ | ⟨b, t, rfl, h3, h4, rfl⟩⟩ := h
    · simp at hm
    · exact (index_in h3 h4 hl m c hc).mono fun e w' h => h
  · have e : indexAns l n = (0, 61) := by
      unfold indexAns
      by_cases h0 : 0 ≤ n
      · rw [if_pos h0, List.getElem?_eq_none (by omega)]
      · rw [if_neg h0]
    rw [e]
    refine (index_out h n hn).mono ?_
    rintro e w' ⟨rfl, rfl⟩
    exact ⟨rfl, Below.refl _ _⟩
end Go.Proofs.Ytfibclaojdoonaa

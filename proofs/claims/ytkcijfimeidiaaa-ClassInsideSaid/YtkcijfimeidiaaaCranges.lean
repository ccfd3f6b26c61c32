/-
  ClassRanges: what stands there is taken. Condition: two bytes, a byte, a text.
-/
import Derived.Test.YtkcijfimeidiaaaCalive
import Derived.Test.YtkcijfimeidiaaaCturned
import Derived.Laws.BytesString
namespace Go.Proofs.Ytkcijfimeidiaaa
open Go.RowKit Go.Sort

def isL (c : Nat) : Prop := 48 ≤ c ∧ c ≤ 122 ∧ c ≠ 91 ∧ c ≠ 93 ∧ c ≠ 94
def LetterP (c : Nat) (w : World) (e : Ending) (w' : World) : Prop := ∃ b, e = .returned (.bool b) ∧ w' = w ∧ (b = true → isL c)
set_option maxRecDepth 100000 in
theorem letter_is (c : Nat) (w : World) : Calls Try.prog 49 #[.int .u8 (c : Int)] w (LetterP c w) := by
  by_cases g1 : 97 ≤ c
  · by_cases g2 : c ≤ 122
    · skip
      have z0 : decide ((97 : Int) ≤ (c : Int)) = true := decide_eq_true (by omega)
      have z1 : decide ((65 : Int) ≤ (c : Int)) = true := decide_eq_true (by omega)
      have z2 : decide ((48 : Int) ≤ (c : Int)) = true := decide_eq_true (by omega)
      have z3 : decide ((c : Int) ≤ (122 : Int)) = true := decide_eq_true (by omega)
      have z4 : decide ((c : Int) ≤ (90 : Int)) = false := decide_eq_false (by omega)
      have z5 : decide ((c : Int) ≤ (57 : Int)) = false := decide_eq_false (by omega)
      have y0 : (97 : Int) ≤ (c : Int) := by omega
      have y1 : (65 : Int) ≤ (c : Int) := by omega
      have y2 : (48 : Int) ≤ (c : Int) := by omega
      have x0 : (c : Int) ≤ (122 : Int) := by omega
      have x1 : ¬ (c : Int) ≤ (90 : Int) := by omega
      have x2 : ¬ (c : Int) ≤ (57 : Int) := by omega
      have HL := Lib.hid (show isL c by unfold isL; omega)
      clear g1 g2
      go_enter Try.func49, Try.ntmps49
      go_wp2_with fail
      go_ret
      exact ⟨true, rfl, rfl, fun _ => HL.out⟩
    · skip
      have z0 : decide ((97 : Int) ≤ (c : Int)) = true := decide_eq_true (by omega)
      have z1 : decide ((65 : Int) ≤ (c : Int)) = true := decide_eq_true (by omega)
      have z2 : decide ((48 : Int) ≤ (c : Int)) = true := decide_eq_true (by omega)
      have z3 : decide ((c : Int) ≤ (122 : Int)) = false := decide_eq_false (by omega)
      have z4 : decide ((c : Int) ≤ (90 : Int)) = false := decide_eq_false (by omega)
      have z5 : decide ((c : Int) ≤ (57 : Int)) = false := decide_eq_false (by omega)
      have y0 : (97 : Int) ≤ (c : Int) := by omega
      have y1 : (65 : Int) ≤ (c : Int) := by omega
      have y2 : (48 : Int) ≤ (c : Int) := by omega
      have x0 : ¬ (c : Int) ≤ (122 : Int) := by omega
      have x1 : ¬ (c : Int) ≤ (90 : Int) := by omega
      have x2 : ¬ (c : Int) ≤ (57 : Int) := by omega
      clear g1 g2
      go_enter Try.func49, Try.ntmps49
      go_wp2_with fail
      go_ret
      exact ⟨false, rfl, rfl, fun h => by cases h⟩
  · by_cases g2 : 65 ≤ c
    · by_cases g3 : c ≤ 90
      · skip
        have z0 : decide ((97 : Int) ≤ (c : Int)) = false := decide_eq_false (by omega)
        have z1 : decide ((65 : Int) ≤ (c : Int)) = true := decide_eq_true (by omega)
        have z2 : decide ((48 : Int) ≤ (c : Int)) = true := decide_eq_true (by omega)
        have z3 : decide ((c : Int) ≤ (122 : Int)) = true := decide_eq_true (by omega)
        have z4 : decide ((c : Int) ≤ (90 : Int)) = true := decide_eq_true (by omega)
        have z5 : decide ((c : Int) ≤ (57 : Int)) = false := decide_eq_false (by omega)
        have y0 : ¬ (97 : Int) ≤ (c : Int) := by omega
        have y1 : (65 : Int) ≤ (c : Int) := by omega
        have y2 : (48 : Int) ≤ (c : Int) := by omega
        have x0 : (c : Int) ≤ (122 : Int) := by omega
        have x1 : (c : Int) ≤ (90 : Int) := by omega
        have x2 : ¬ (c : Int) ≤ (57 : Int) := by omega
        have HL := Lib.hid (show isL c by unfold isL; omega)
        clear g1 g2 g3
        go_enter Try.func49, Try.ntmps49
        go_wp2_with fail
        go_ret
        exact ⟨true, rfl, rfl, fun _ => HL.out⟩
      · skip
        have z0 : decide ((97 : Int) ≤ (c : Int)) = false := decide_eq_false (by omega)
        have z1 : decide ((65 : Int) ≤ (c : Int)) = true := decide_eq_true (by omega)
        have z2 : decide ((48 : Int) ≤ (c : Int)) = true := decide_eq_true (by omega)
        have z3 : decide ((c : Int) ≤ (122 : Int)) = true := decide_eq_true (by omega)
        have z4 : decide ((c : Int) ≤ (90 : Int)) = false := decide_eq_false (by omega)
        have z5 : decide ((c : Int) ≤ (57 : Int)) = false := decide_eq_false (by omega)
        have y0 : ¬ (97 : Int) ≤ (c : Int) := by omega
        have y1 : (65 : Int) ≤ (c : Int) := by omega
        have y2 : (48 : Int) ≤ (c : Int) := by omega
        have x0 : (c : Int) ≤ (122 : Int) := by omega
        have x1 : ¬ (c : Int) ≤ (90 : Int) := by omega
        have x2 : ¬ (c : Int) ≤ (57 : Int) := by omega
        clear g1 g2 g3
        go_enter Try.func49, Try.ntmps49
        go_wp2_with fail
        go_ret
        exact ⟨false, rfl, rfl, fun h => by cases h⟩
    · by_cases g3 : 48 ≤ c
      · by_cases g4 : c ≤ 57
        · skip
          have z0 : decide ((97 : Int) ≤ (c : Int)) = false := decide_eq_false (by omega)
          have z1 : decide ((65 : Int) ≤ (c : Int)) = false := decide_eq_false (by omega)
          have z2 : decide ((48 : Int) ≤ (c : Int)) = true := decide_eq_true (by omega)
          have z3 : decide ((c : Int) ≤ (122 : Int)) = true := decide_eq_true (by omega)
          have z4 : decide ((c : Int) ≤ (90 : Int)) = true := decide_eq_true (by omega)
          have z5 : decide ((c : Int) ≤ (57 : Int)) = true := decide_eq_true (by omega)
          have y0 : ¬ (97 : Int) ≤ (c : Int) := by omega
          have y1 : ¬ (65 : Int) ≤ (c : Int) := by omega
          have y2 : (48 : Int) ≤ (c : Int) := by omega
          have x0 : (c : Int) ≤ (122 : Int) := by omega
          have x1 : (c : Int) ≤ (90 : Int) := by omega
          have x2 : (c : Int) ≤ (57 : Int) := by omega
          have HL := Lib.hid (show isL c by unfold isL; omega)
          clear g1 g2 g3 g4
          go_enter Try.func49, Try.ntmps49
          go_wp2_with fail
          go_ret
          exact ⟨true, rfl, rfl, fun _ => HL.out⟩
        · skip
          have z0 : decide ((97 : Int) ≤ (c : Int)) = false := decide_eq_false (by omega)
          have z1 : decide ((65 : Int) ≤ (c : Int)) = false := decide_eq_false (by omega)
          have z2 : decide ((48 : Int) ≤ (c : Int)) = true := decide_eq_true (by omega)
          have z3 : decide ((c : Int) ≤ (122 : Int)) = true := decide_eq_true (by omega)
          have z4 : decide ((c : Int) ≤ (90 : Int)) = true := decide_eq_true (by omega)
          have z5 : decide ((c : Int) ≤ (57 : Int)) = false := decide_eq_false (by omega)
          have y0 : ¬ (97 : Int) ≤ (c : Int) := by omega
          have y1 : ¬ (65 : Int) ≤ (c : Int) := by omega
          have y2 : (48 : Int) ≤ (c : Int) := by omega
          have x0 : (c : Int) ≤ (122 : Int) := by omega
          have x1 : (c : Int) ≤ (90 : Int) := by omega
          have x2 : ¬ (c : Int) ≤ (57 : Int) := by omega
          clear g1 g2 g3 g4
          go_enter Try.func49, Try.ntmps49
          go_wp2_with fail
          go_ret
          exact ⟨false, rfl, rfl, fun h => by cases h⟩
      · skip
        have z0 : decide ((97 : Int) ≤ (c : Int)) = false := decide_eq_false (by omega)
        have z1 : decide ((65 : Int) ≤ (c : Int)) = false := decide_eq_false (by omega)
        have z2 : decide ((48 : Int) ≤ (c : Int)) = false := decide_eq_false (by omega)
        have z3 : decide ((c : Int) ≤ (122 : Int)) = true := decide_eq_true (by omega)
        have z4 : decide ((c : Int) ≤ (90 : Int)) = true := decide_eq_true (by omega)
        have z5 : decide ((c : Int) ≤ (57 : Int)) = true := decide_eq_true (by omega)
        have y0 : ¬ (97 : Int) ≤ (c : Int) := by omega
        have y1 : ¬ (65 : Int) ≤ (c : Int) := by omega
        have y2 : ¬ (48 : Int) ≤ (c : Int) := by omega
        have x0 : (c : Int) ≤ (122 : Int) := by omega
        have x1 : (c : Int) ≤ (90 : Int) := by omega
        have x2 : (c : Int) ≤ (57 : Int) := by omega
        clear g1 g2 g3
        go_enter Try.func49, Try.ntmps49
        go_wp2_with fail
        go_ret
        exact ⟨false, rfl, rfl, fun h => by cases h⟩

theorem run_text4 (p q : UInt8) (W : World) : (convert 64 9 (.slice (some ⟨W.heap.size, 0, none⟩) 4 4)).run Try.prog (W.alloc (.cells #[.int .u8 (p.toNat : Int), .int .u8 45, .int .u8 (q.toNat : Int), .int .u8 93] 5)) =
    .ok (.string ⟨#[p, 45, q, 93]⟩) (W.alloc (.cells #[.int .u8 (p.toNat : Int), .int .u8 45, .int .u8 (q.toNat : Int), .int .u8 93] 5)) := by
  refine run_convert_bytes_back (P := Try.prog) _ 64 9 5 ⟨W.heap.size, 0, none⟩ 4 [p, 45, q, 93] Try.underlying64 Try.underlying5 Try.underlying9 (fun j hj => ?_)
  match j, hj with
  | 0, _ => simp [Addr.add, go_sem]
  | 1, _ => simp [Addr.add, go_sem]
  | 2, _ => simp [Addr.add, go_sem]
  | 3, _ => simp [Addr.add, go_sem]

/-- What the bracket of a range is, wherever it stands. -/
theorem brk_range {s : ByteArray} {n : Nat} {p q : UInt8} {r : List UInt8} (hs : s.data.toList.drop n = p :: 45 :: q :: 93 :: r) (hp : isL p.toNat) (hq : isL q.toNat) :
    Brk (fun _ => True) s n noS (if p.toNat ≤ q.toNat then some (bothS noS (withS noS p.toNat q.toNat), n + 3) else none) := by
  have hd : (s.extract n s.size).data.toList = p :: 45 :: q :: 93 :: r := by rw [drop_of, hs]
  have hlen : n + 4 ≤ s.size := by
    have := congrArg List.length hs
    simp only [List.length_drop, List.length_cons] at this
    have h2 : s.data.toList.length = s.size := by simp
    omega
  have np : p ≠ 91 := fun e => by subst e; exact hp.2.2.1 rfl
  have nq : q ≠ 91 := fun e => by subst e; exact hq.2.2.1 rfl
  have nq3 : q ≠ 93 := fun e => by subst e; exact hq.2.2.2.1 rfl
  have np10 : p ≠ 10 := fun e => by subst e; exact absurd hp.1 (by decide)
  have nq10 : q ≠ 10 := fun e => by subst e; exact absurd hq.1 (by decide)
  have hpre : pre ⟨#[91, 58]⟩ (s.extract n s.size) = false := by
    unfold pre
    rw [hd]
    simp [List.isPrefixOf, Ne.symm np]
  have hI := item_is (fun _ => True) (s.extract n s.size) hpre
  rw [hd] at hI
  have b1 : byteOf (p :: 45 :: q :: 93 :: r) = true := by simp [byteOf, np, np10]
  have b2 : byteOf (q :: 93 :: r) = true := by simp [byteOf, nq, nq10]
  simp only [itmP, b1, b2, if_true, true_and, ne_eq, nq3, not_false_eq_true] at hI
  by_cases h : p.toNat ≤ q.toNat
  · rw [if_pos h]
    rw [if_pos h] at hI
    refine .last (OkS.no.withS _ _) hI (by decide) (by omega) ?_
    unfold pre
    rw [drop_of, ← List.drop_drop, hs]
    rfl
  · rw [if_neg h]
    rw [if_neg h] at hI
    exact .bad OkS.no (by omega) hI
theorem pre_caret {p : UInt8} {l : List UInt8} {s : ByteArray} (hs : s.data.toList = p :: l) (hp : isL p.toNat) : pre ⟨#[94]⟩ s = false := by
  have np : p ≠ 94 := fun e => by subst e; exact hp.2.2.2.2 rfl
  unfold pre
  rw [hs]
  simp [List.isPrefixOf, Ne.symm np]

def Pair2 (w : World) (b : Nat) (lo hi : Nat) : Prop := w.cell? ⟨b, 0, none⟩ = some (.int .u8 (lo : Int)) ∧ w.cell? ⟨b, 1, none⟩ = some (.int .u8 (hi : Int))
theorem Pair2.below {w w' : World} {b B lo hi : Nat} (h : Pair2 w b lo hi) (hw : Below B w w') (hb : b < B) : Pair2 w' b lo hi := ⟨by rw [hw.cell hb]; exact h.1, by rw [hw.cell hb]; exact h.2⟩

set_option maxRecDepth 100000 in
set_option maxHeartbeats 4000000 in
theorem ranges_any (p q : UInt8) (c : Nat) (rest : ByteArray) (hc : c < 256) (w : World) :
    Calls Try.prog 13 #[.agg #[.int .u8 (p.toNat : Int), .int .u8 (q.toNat : Int)], .int .u8 (c : Int), .string rest] w (TrueC w) := by
  have HLP := Lib.hid (letter_is p.toNat)
  have HLQ := Lib.hid (letter_is q.toNat)
  have HAL := Lib.hid fun (W : World) => alive_c W
  have hb0 := (Below.refl w.heap.size w).alloc (Nat.le_refl _) (.cells #[.int .u8 (p.toNat : Int), .int .u8 (q.toNat : Int)] 63)
  have HB0 := Lib.hid hb0
  clear hb0
  go_enter Try.func13, Try.ntmps13
  go_wp2_with fail
  go_at_call 49
  refine (HLP.out _).mono ?_
  rintro e w0 ⟨b1, rfl, rfl, h1⟩
  go_wp2_with fail
  go_at_call 49
  refine (HLQ.out _).mono ?_
  rintro e w0 ⟨b2, rfl, rfl, h2⟩
  cases b1 with
  | false => 
    clear h1 h2 HLP HLQ
    go_wp2_with fail
    go_at_call 34
    refine (HAL.out _).mono ?_
    rintro e w1 ⟨rfl, hw1⟩
    have HW := Lib.hid (HB0.out.trans (hw1.mono HB0.out.size))
    clear hw1
    go_wp2_with fail
    go_ret
    exact ⟨rfl, HW.out⟩
  | true =>
    cases b2 with
    | false => 
      clear h1 h2 HLP HLQ
      go_wp2_with fail
      go_at_call 34
      refine (HAL.out _).mono ?_
      rintro e w1 ⟨rfl, hw1⟩
      have HW := Lib.hid (HB0.out.trans (hw1.mono HB0.out.size))
      clear hw1
      go_wp2_with fail
      go_ret
      exact ⟨rfl, HW.out⟩
    | true =>
      by_cases h3 : 100 < rest.size
      · have z1 : (100 : Int) < (rest.size : Int) := by omega
        
        clear h1 h2 h3 HLP HLQ
        go_wp2_with fail
        go_at_call 34
        refine (HAL.out _).mono ?_
        rintro e w1 ⟨rfl, hw1⟩
        have HW := Lib.hid (HB0.out.trans (hw1.mono HB0.out.size))
        clear hw1
        go_wp2_with fail
        go_ret
        exact ⟨rfl, HW.out⟩
      · have z1 : ¬ (100 : Int) < (rest.size : Int) := by omega
        have z2 : (rest.size : Int) ≤ 100 := by omega
        have hlp := h1 rfl
        have hlq := h2 rfl
        have hsz := Nat.le_of_not_lt h3
        clear h1 h2 h3 HLP HLQ
        have hcv := run_text4 p q (w.alloc (.cells #[.int .u8 (p.toNat : Int), .int .u8 (q.toNat : Int)] 63))
        rw [World.size_alloc] at hcv
        obtain ⟨T, hT⟩ : ∃ T : ByteArray, T = ⟨#[p, 45, q, 93]⟩ := ⟨_, rfl⟩
        rw [← hT] at hcv
        have hl1 : (T ++ rest).data.toList = p :: 45 :: q :: 93 :: rest.data.toList := by subst hT; simp
        have hl2 : (⟨#[94]⟩ ++ T ++ rest : ByteArray).data.toList = 94 :: p :: 45 :: q :: 93 :: rest.data.toList := by subst hT; simp
        have hs1 : (T ++ rest).size ≤ 281474976710656 := by rw [size_of hl1]; simp only [List.length_cons]; rw [show rest.data.toList.length = rest.size by simp]; omega
        have hs2 : (⟨#[94]⟩ ++ T ++ rest : ByteArray).size ≤ 281474976710656 := by rw [size_of hl2]; simp only [List.length_cons]; rw [show rest.data.toList.length = rest.size by simp]; omega
        have hT4 : T.size = 4 := by subst hT; rfl
        have k1 := brk_range (s := T ++ rest) (n := 0) (r := rest.data.toList) hl1 hlp hlq
        have k2 := brk_range (s := ⟨#[94]⟩ ++ T ++ rest) (n := 1) (r := rest.data.toList) (by rw [hl2]; rfl) hlp hlq
        have hc1 : pre ⟨#[94]⟩ (T ++ rest) = false := pre_caret hl1 hlp
        have hc2 : pre ⟨#[94]⟩ (⟨#[94]⟩ ++ T ++ rest) = true := by unfold pre; rw [hl2]; rfl
        have hlo := p.toNat_lt
        have hhi := q.toNat_lt
        have hp48 := hlp.1
        generalize p.toNat = lo at *
        generalize q.toNat = hi at *
        obtain ⟨R, hR⟩ : ∃ R, R = bothS noS (withS noS lo hi) := ⟨_, rfl⟩
        have hRO : OkS R := by rw [hR]; exact OkS.no.both (OkS.no.withS _ _)
        have hRh : has R c = (decide (lo ≤ c) && decide (c ≤ hi)) := by rw [hR, has_both, has_no, Bool.false_or, has_with, has_no, Bool.false_or]
        obtain ⟨U, hU⟩ : ∃ U, U = notS (withS R 10 10) := ⟨_, rfl⟩
        have hUO : OkS U := by rw [hU]; exact (hRO.withS _ _).not
        have hUh : has U c = !(has R c || (decide (10 ≤ c) && decide (c ≤ 10))) := by rw [hU, has_not, has_with]
        rw [← hR] at k1 k2
        have hadd : (T.size : Int) + (rest.size : Int) ≤ 9223372036854775807 := by omega
        clear hT hl1 hl2 hlp hlq hR
        by_cases hle : lo ≤ hi
        · rw [if_pos hle] at k1 k2
          have HK1 := Lib.hid fun (W : World) => bracket_is (fun _ => True) (fun _ _ _ _ => trivial) (T ++ rest) false hc1 _ k1 hs1 W trivial
          have HK2 := Lib.hid fun (W : World) => bracket_is (fun _ => True) (fun _ _ _ _ => trivial) (⟨#[94]⟩ ++ T ++ rest) true hc2 _ k2 hs2 W trivial
          simp only [brkV, Bool.false_eq_true, if_false, if_true, setV, Nat.reduceAdd, ← hU, Int.cast_ofNat_Int] at HK1 HK2
          have hlei : ¬ (hi : Int) < (lo : Int) := by omega
          have hlej : (lo : Int) ≤ (hi : Int) := by omega
          clear k1 k2 hc1 hc2 hs1 hs2 hU
          go_wp2_with fail
          go_at_call 47
          refine (HK1.out _).mono ?_
          rintro e w1 ⟨rfl, hw1⟩
          obtain ⟨w0, hw0⟩ : ∃ w0, w0 = ((w.alloc (.cells #[.int .u8 (lo : Int), .int .u8 (hi : Int)] 63)).alloc (.cells #[.int .u8 (lo : Int), .int .u8 45, .int .u8 (hi : Int), .int .u8 93] 5)) := ⟨_, rfl⟩
          rw [← hw0] at hw1
          have xp : Pair2 w0 w.heap.size lo hi := by rw [hw0]; exact ⟨by simp [go_sem], by simp [go_sem]⟩
          have HB00 := Lib.hid (show Below w.heap.size w w0 by rw [hw0]; exact HB0.out.alloc HB0.out.size _)
          have l0 : w.heap.size < w0.heap.size := by rw [hw0]; simp; omega
          clear hw0 hcv
          have HP1 := Lib.hid (xp.below hw1 l0)
          have HB1 := Lib.hid (HB00.out.trans (hw1.mono HB00.out.size))
          have HL1 := Lib.hid (Nat.lt_of_lt_of_le l0 hw1.size)
          clear xp l0 hw1 HB00
          go_wp2_with fail
          go_at_call 47
          refine (HK2.out _).mono ?_
          rintro e w2 ⟨rfl, hw2⟩
          have xr := (Box.new w1 R 69).below hw2 (by simp)
          have h12 := ((Below.refl _ w1).alloc (Nat.le_refl _) _).trans (hw2.mono (by simp))
          have HP2 := Lib.hid (HP1.out.below h12 HL1.out)
          have HB2 := Lib.hid (HB1.out.trans (h12.mono HB1.out.size))
          have HL2 := Lib.hid (Nat.lt_of_lt_of_le HL1.out h12.size)
          have HR2 := Lib.hid (Nat.lt_of_lt_of_le (show w1.heap.size < (w1.alloc (.cells #[.int .u64 (R 0), .int .u64 (R 1), .int .u64 (R 2), .int .u64 (R 3)] 69)).heap.size by simp) hw2.size)
          have HXR := Lib.hid xr
          clear xr h12 hw2
          obtain ⟨p0, p1⟩ := HP2.out
          have l2 := HL2.out
          have HHR := Lib.hid fun (W : World) => has_is R c hRO hc W
          have HHU := Lib.hid fun (W : World) => has_is U c hUO hc W
          unfold setV at HHR HHU
          have hUb := has_with R 10 10 c
          clear hRO hUO
          rw [hUh] at HHU
          by_cases a1 : lo ≤ c
          · have d1 : decide (lo ≤ c) = true := decide_eq_true a1
            have i1 : (lo : Int) ≤ (c : Int) := by omega
            have d10 : (decide (10 ≤ c) && decide (c ≤ 10)) = false := by rw [decide_eq_false (p := c ≤ 10) (by omega), Bool.and_false]
            have n10 : ((c : Int) != 10) = true := by rw [bne_iff_ne]; omega
            by_cases a2 : c ≤ hi
            · have d2 : decide (c ≤ hi) = true := decide_eq_true a2
              have i2 : (c : Int) ≤ (hi : Int) := by omega
              rw [hRh, d1, d2, d10] at HHU
              rw [hRh, d1, d2] at HHR
              simp only [Bool.and_self, Bool.or_false, Bool.not_true] at HHU HHR
              clear d10 hRh hUh hUb a1 a2
              go_wp2_with fail
              go_at_call 34
              refine (HAL.out _).mono ?_
              rintro e w3 ⟨rfl, hw3⟩
              have HB3 := Lib.hid ((HB2.out.alloc HB2.out.size (.cells #[.int .u64 (U 0), .int .u64 (U 1), .int .u64 (U 2), .int .u64 (U 3)] 69)).trans (hw3.mono (by simpa using Nat.le_succ_of_le HB2.out.size)))
              have xr3 := (HXR.out.below ((Below.refl _ w2).alloc (Nat.le_refl _) (.cells #[.int .u64 (U 0), .int .u64 (U 1), .int .u64 (U 2), .int .u64 (U 3)] 69)) HR2.out).below hw3 (by simpa using Nat.lt_succ_of_lt HR2.out)
              have HXU := Lib.hid ((Box.new w2 U 69).below hw3 (by simp))
              have HLU := Lib.hid (Nat.lt_of_lt_of_le (show w2.heap.size < (w2.alloc (.cells #[.int .u64 (U 0), .int .u64 (U 1), .int .u64 (U 2), .int .u64 (U 3)] 69)).heap.size by simp) hw3.size)
              clear hw3 p0 p1 l2
              obtain ⟨r0, r1, r2, r3⟩ := xr3
              go_wp2_with fail
              go_at_call 35
              refine (HHR.out _).mono ?_
              rintro e w4 ⟨rfl, hw4⟩
              have HB4 := Lib.hid (HB3.out.trans (hw4.mono HB3.out.size))
              obtain ⟨u0, u1, u2, u3⟩ := HXU.out.below hw4 HLU.out
              clear hw4 r0 r1 r2 r3
              go_wp2_with fail
              go_at_call 35
              refine (HHU.out _).mono ?_
              rintro e w5 ⟨rfl, hw5⟩
              have HB5 := Lib.hid (HB4.out.trans (hw5.mono HB4.out.size))
              clear hw5
              go_wp2_with fail
              go_ret
              exact ⟨rfl, HB5.out⟩
            · have d2 : decide (c ≤ hi) = false := decide_eq_false a2
              have i2 : (hi : Int) < (c : Int) := by omega
              rw [hRh, d1, d2, d10] at HHU
              rw [hRh, d1, d2] at HHR
              simp only [Bool.and_false, Bool.or_false, Bool.not_false] at HHU HHR
              clear d10 hRh hUh hUb a1 a2
              go_wp2_with fail
              go_at_call 34
              refine (HAL.out _).mono ?_
              rintro e w3 ⟨rfl, hw3⟩
              have HB3 := Lib.hid ((HB2.out.alloc HB2.out.size (.cells #[.int .u64 (U 0), .int .u64 (U 1), .int .u64 (U 2), .int .u64 (U 3)] 69)).trans (hw3.mono (by simpa using Nat.le_succ_of_le HB2.out.size)))
              have xr3 := (HXR.out.below ((Below.refl _ w2).alloc (Nat.le_refl _) (.cells #[.int .u64 (U 0), .int .u64 (U 1), .int .u64 (U 2), .int .u64 (U 3)] 69)) HR2.out).below hw3 (by simpa using Nat.lt_succ_of_lt HR2.out)
              have HXU := Lib.hid ((Box.new w2 U 69).below hw3 (by simp))
              have HLU := Lib.hid (Nat.lt_of_lt_of_le (show w2.heap.size < (w2.alloc (.cells #[.int .u64 (U 0), .int .u64 (U 1), .int .u64 (U 2), .int .u64 (U 3)] 69)).heap.size by simp) hw3.size)
              clear hw3 p0 p1 l2
              obtain ⟨r0, r1, r2, r3⟩ := xr3
              go_wp2_with fail
              go_at_call 35
              refine (HHR.out _).mono ?_
              rintro e w4 ⟨rfl, hw4⟩
              have HB4 := Lib.hid (HB3.out.trans (hw4.mono HB3.out.size))
              obtain ⟨u0, u1, u2, u3⟩ := HXU.out.below hw4 HLU.out
              clear hw4 r0 r1 r2 r3
              go_wp2_with fail
              go_at_call 35
              refine (HHU.out _).mono ?_
              rintro e w5 ⟨rfl, hw5⟩
              have HB5 := Lib.hid (HB4.out.trans (hw5.mono HB4.out.size))
              clear hw5
              go_wp2_with fail
              go_ret
              exact ⟨rfl, HB5.out⟩
          · have d1 : decide (lo ≤ c) = false := decide_eq_false a1
            have i1 : (c : Int) < (lo : Int) := by omega
            by_cases a3 : c = 10
            · have d10 : (decide (10 ≤ c) && decide (c ≤ 10)) = true := by rw [decide_eq_true (p := 10 ≤ c) (by omega), decide_eq_true (p := c ≤ 10) (by omega), Bool.and_self]
              have n10 : ((c : Int) != 10) = false := by rw [bne_eq_false_iff_eq]; omega
              rw [hRh, d1, d10] at HHU
              rw [hRh, d1] at HHR
              simp only [Bool.false_and, Bool.or_true, Bool.not_true] at HHU HHR
              clear d10 hRh hUh hUb a1 a3
              go_wp2_with fail
              go_at_call 34
              refine (HAL.out _).mono ?_
              rintro e w3 ⟨rfl, hw3⟩
              have HB3 := Lib.hid ((HB2.out.alloc HB2.out.size (.cells #[.int .u64 (U 0), .int .u64 (U 1), .int .u64 (U 2), .int .u64 (U 3)] 69)).trans (hw3.mono (by simpa using Nat.le_succ_of_le HB2.out.size)))
              have xr3 := (HXR.out.below ((Below.refl _ w2).alloc (Nat.le_refl _) (.cells #[.int .u64 (U 0), .int .u64 (U 1), .int .u64 (U 2), .int .u64 (U 3)] 69)) HR2.out).below hw3 (by simpa using Nat.lt_succ_of_lt HR2.out)
              have HXU := Lib.hid ((Box.new w2 U 69).below hw3 (by simp))
              have HLU := Lib.hid (Nat.lt_of_lt_of_le (show w2.heap.size < (w2.alloc (.cells #[.int .u64 (U 0), .int .u64 (U 1), .int .u64 (U 2), .int .u64 (U 3)] 69)).heap.size by simp) hw3.size)
              clear hw3 p0 p1 l2
              obtain ⟨r0, r1, r2, r3⟩ := xr3
              go_wp2_with fail
              go_at_call 35
              refine (HHR.out _).mono ?_
              rintro e w4 ⟨rfl, hw4⟩
              have HB4 := Lib.hid (HB3.out.trans (hw4.mono HB3.out.size))
              obtain ⟨u0, u1, u2, u3⟩ := HXU.out.below hw4 HLU.out
              clear hw4 r0 r1 r2 r3
              go_wp2_with fail
              go_at_call 35
              refine (HHU.out _).mono ?_
              rintro e w5 ⟨rfl, hw5⟩
              have HB5 := Lib.hid (HB4.out.trans (hw5.mono HB4.out.size))
              clear hw5
              go_wp2_with fail
              go_ret
              exact ⟨rfl, HB5.out⟩
            · have d10 : (decide (10 ≤ c) && decide (c ≤ 10)) = false := by
                by_cases h : 10 ≤ c
                · rw [decide_eq_false (p := c ≤ 10) (by omega), Bool.and_false]
                · rw [decide_eq_false h, Bool.false_and]
              have n10 : ((c : Int) != 10) = true := by rw [bne_iff_ne]; omega
              rw [hRh, d1, d10] at HHU
              rw [hRh, d1] at HHR
              simp only [Bool.false_and, Bool.or_false, Bool.not_false] at HHU HHR
              clear d10 hRh hUh hUb a1 a3
              go_wp2_with fail
              go_at_call 34
              refine (HAL.out _).mono ?_
              rintro e w3 ⟨rfl, hw3⟩
              have HB3 := Lib.hid ((HB2.out.alloc HB2.out.size (.cells #[.int .u64 (U 0), .int .u64 (U 1), .int .u64 (U 2), .int .u64 (U 3)] 69)).trans (hw3.mono (by simpa using Nat.le_succ_of_le HB2.out.size)))
              have xr3 := (HXR.out.below ((Below.refl _ w2).alloc (Nat.le_refl _) (.cells #[.int .u64 (U 0), .int .u64 (U 1), .int .u64 (U 2), .int .u64 (U 3)] 69)) HR2.out).below hw3 (by simpa using Nat.lt_succ_of_lt HR2.out)
              have HXU := Lib.hid ((Box.new w2 U 69).below hw3 (by simp))
              have HLU := Lib.hid (Nat.lt_of_lt_of_le (show w2.heap.size < (w2.alloc (.cells #[.int .u64 (U 0), .int .u64 (U 1), .int .u64 (U 2), .int .u64 (U 3)] 69)).heap.size by simp) hw3.size)
              clear hw3 p0 p1 l2
              obtain ⟨r0, r1, r2, r3⟩ := xr3
              go_wp2_with fail
              go_at_call 35
              refine (HHR.out _).mono ?_
              rintro e w4 ⟨rfl, hw4⟩
              have HB4 := Lib.hid (HB3.out.trans (hw4.mono HB3.out.size))
              obtain ⟨u0, u1, u2, u3⟩ := HXU.out.below hw4 HLU.out
              clear hw4 r0 r1 r2 r3
              go_wp2_with fail
              go_at_call 35
              refine (HHU.out _).mono ?_
              rintro e w5 ⟨rfl, hw5⟩
              have HB5 := Lib.hid (HB4.out.trans (hw5.mono HB4.out.size))
              clear hw5
              go_wp2_with fail
              go_ret
              exact ⟨rfl, HB5.out⟩
        · rw [if_neg hle] at k1 k2
          have HK1 := Lib.hid fun (W : World) => bracket_is (fun _ => True) (fun _ _ _ _ => trivial) (T ++ rest) false hc1 _ k1 hs1 W trivial
          have HK2 := Lib.hid fun (W : World) => bracket_is (fun _ => True) (fun _ _ _ _ => trivial) (⟨#[94]⟩ ++ T ++ rest) true hc2 _ k2 hs2 W trivial
          simp only [brkV, setV] at HK1 HK2
          have hlei : (hi : Int) < (lo : Int) := by omega
          clear k1 k2 hc1 hc2 hs1 hs2 hU hRO hRh hUO hUh
          go_wp2_with fail
          go_at_call 47
          refine (HK1.out _).mono ?_
          rintro e w1 ⟨rfl, hw1⟩
          obtain ⟨w0, hw0⟩ : ∃ w0, w0 = ((w.alloc (.cells #[.int .u8 (lo : Int), .int .u8 (hi : Int)] 63)).alloc (.cells #[.int .u8 (lo : Int), .int .u8 45, .int .u8 (hi : Int), .int .u8 93] 5)) := ⟨_, rfl⟩
          rw [← hw0] at hw1
          have xp : Pair2 w0 w.heap.size lo hi := by rw [hw0]; exact ⟨by simp [go_sem], by simp [go_sem]⟩
          have HB00 := Lib.hid (show Below w.heap.size w w0 by rw [hw0]; exact HB0.out.alloc HB0.out.size _)
          have l0 : w.heap.size < w0.heap.size := by rw [hw0]; simp; omega
          clear hw0 hcv
          have HP1 := Lib.hid (xp.below hw1 l0)
          have HB1 := Lib.hid (HB00.out.trans (hw1.mono HB00.out.size))
          have HL1 := Lib.hid (Nat.lt_of_lt_of_le l0 hw1.size)
          clear xp l0 hw1 HB00
          go_wp2_with fail
          go_at_call 47
          refine (HK2.out _).mono ?_
          rintro e w2 ⟨rfl, hw2⟩
          have xr := (Box.new w1 noS 69).below hw2 (by simp)
          have h12 := ((Below.refl _ w1).alloc (Nat.le_refl _) _).trans (hw2.mono (by simp))
          have HP2 := Lib.hid (HP1.out.below h12 HL1.out)
          have HB2 := Lib.hid (HB1.out.trans (h12.mono HB1.out.size))
          have HL2 := Lib.hid (Nat.lt_of_lt_of_le HL1.out h12.size)
          have HR2 := Lib.hid (Nat.lt_of_lt_of_le (show w1.heap.size < (w1.alloc (.cells #[.int .u64 (noS 0), .int .u64 (noS 1), .int .u64 (noS 2), .int .u64 (noS 3)] 69)).heap.size by simp) hw2.size)
          have HXR := Lib.hid xr
          clear xr h12 hw2
          obtain ⟨p0, p1⟩ := HP2.out
          have l2 := HL2.out
          clear HXR HR2
          go_wp2_with fail
          go_at_call 34
          refine (HAL.out _).mono ?_
          rintro e w3 ⟨rfl, hw3⟩
          have HB3 := Lib.hid ((HB2.out.alloc HB2.out.size (.cells #[.int .u64 (noS 0), .int .u64 (noS 1), .int .u64 (noS 2), .int .u64 (noS 3)] 69)).trans (hw3.mono (by simpa using Nat.le_succ_of_le HB2.out.size)))
          clear hw3
          go_wp2_with fail
          go_ret
          exact ⟨rfl, HB3.out⟩
theorem ranges_nat (x y c : Nat) (hx : x < 256) (hy : y < 256) (rest : ByteArray) (hc : c < 256) (w : World) :
    Calls Try.prog 13 #[.agg #[.int .u8 (x : Int), .int .u8 (y : Int)], .int .u8 (c : Int), .string rest] w (TrueC w) := by
  have h := ranges_any (UInt8.ofNat x) (UInt8.ofNat y) c rest hc w
  have ex : (UInt8.ofNat x).toNat = x := by simp; omega
  have ey : (UInt8.ofNat y).toNat = y := by simp; omega
  rw [ex, ey] at h
  exact h
end Go.Proofs.Ytkcijfimeidiaaa

/-
  ClassInside: names in brackets. Condition: two texts, a byte; the world holds what strings.Index asks.
-/
import Derived.Test.YtkcijfimeidiaaaCitemn
import Derived.Test.YtkcijfimeidiaaaCturned
import Derived.Test.YtkcijfimeidiaaaCranges
namespace Go.Proofs.Ytkcijfimeidiaaa
open Go.RowKit Go.Sort

theorem index_name {a r : List UInt8} (h : ∀ b ∈ a, b ≠ 58) : Lib.index (a ++ 58 :: 93 :: r) [58, 93] = (a.length : Int) := by
  induction a with
  | nil => simp [Lib.index, List.isPrefixOf]
  | cons b a ih =>
    have hb : b ≠ 58 := h b List.mem_cons_self
    have i := ih fun x hx => h x (List.mem_cons_of_mem _ hx)
    rw [List.cons_append, Lib.index, if_neg (by simp [List.isPrefixOf, Ne.symm hb]), i]
    rw [if_neg (by first | (simp; done) | (simp; omega))]
    simp
theorem cut_name {a r : List UInt8} (h : ∀ b ∈ a, b ≠ 58) : Lib.cut (a ++ 58 :: 93 :: r) [58, 93] = (a, r, true) := by
  unfold Lib.cut
  rw [index_name h, if_pos (by omega)]
  have e : ((a.length : Int)).toNat = a.length := by omega
  rw [e]
  simp only [List.take_left', List.length_cons, List.length_nil]
  congr 2
  rw [← List.drop_drop, List.drop_left' rfl]
  rfl
theorem name_plain (l : List UInt8) (h : isName l = true) : ∀ b ∈ l, b ≠ 58 := by
  refine names_all (p := fun l => ∀ b ∈ l, b ≠ 58) ?_ l h
  refine ⟨?_, ?_, ?_, ?_, ?_, ?_, ?_, ?_, ?_, ?_, ?_, ?_⟩ <;> decide
/-- The item of a name. -/
theorem itm_name {a r : List UInt8} (h : isName a = true) : itm (91 :: 58 :: (a ++ 58 :: 93 :: r)) = (nameS a, a.length + 4) := by
  unfold itm
  have e : [91, 58].isPrefixOf (91 :: 58 :: (a ++ 58 :: 93 :: r)) = true := by simp [List.isPrefixOf]
  rw [if_pos e]
  show nmd (a ++ 58 :: 93 :: r) = _
  unfold nmd
  rw [cut_name (name_plain a h), if_pos ⟨rfl, h⟩]
/-- The item of a figure. -/
theorem itm_figure {c : UInt8} {r : List UInt8} (h0 : 48 ≤ c.toNat) (h1 : c.toNat ≤ 57) : itm (c :: 91 :: 58 :: r) = (withS noS c.toNat c.toNat, 1) := by
  have n1 : c ≠ 91 := fun e => by subst e; exact absurd h1 (by decide)
  have n2 : c ≠ 10 := fun e => by subst e; exact absurd h0 (by decide)
  unfold itm
  rw [if_neg (by simp [List.isPrefixOf, Ne.symm n1])]
  simp only [itmP]
  rw [if_pos (by simp [byteOf, n1, n2]), if_neg (by simp)]

theorem itm_at (s : ByteArray) (hs : s.size ≤ 2147483648) (n : Nat) : ItemC MaxAt (s.extract n s.size) (itm (s.data.toList.drop n)) := by
  have h := item_any (s.extract n s.size) (by simp; omega)
  rwa [drop_of] at h
theorem pre_close {s : ByteArray} {n : Nat} {r : List UInt8} (h : s.data.toList.drop n = 93 :: r) : pre ⟨#[93]⟩ (s.extract n s.size) = true := by
  unfold pre
  rw [drop_of, h]
  rfl
theorem pre_open {s : ByteArray} {n : Nat} {c : UInt8} {r : List UInt8} (h : s.data.toList.drop n = c :: r) (hc : c ≠ 93) : pre ⟨#[93]⟩ (s.extract n s.size) = false := by
  unfold pre
  rw [drop_of, h]
  simp [List.isPrefixOf, Ne.symm hc]
theorem drop_len {s : ByteArray} {n : Nat} {l : List UInt8} (h : s.data.toList.drop n = l) (hn : n ≤ s.size) : n + l.length = s.size := by
  rw [← h, List.length_drop]
  have : s.data.toList.length = s.size := by simp
  omega
/-- The last name of a bracket. -/
theorem brk_name {s : ByteArray} {n : Nat} {S : Nat → Nat} {a : List UInt8} (hs : s.size ≤ 2147483648) (hn : n ≤ s.size) (hd : s.data.toList.drop n = 91 :: 58 :: (a ++ [58, 93, 93])) (ha : isName a = true) :
    Brk MaxAt s n S (some (bothS S (nameS a), n + (a.length + 4))) := by
  have hI := itm_at s hs n
  rw [hd, show a ++ [58, 93, 93] = a ++ 58 :: 93 :: [93] from rfl, itm_name ha] at hI
  have hl := drop_len hd hn
  simp only [List.length_cons, List.length_append, List.length_nil] at hl
  refine .last (nameS_ok a) hI (by omega) (by omega) (pre_close (r := []) ?_)
  rw [← List.drop_drop, hd, show (91 :: 58 :: (a ++ [58, 93, 93]) : List UInt8) = ([91, 58] ++ a ++ [58, 93]) ++ [93] by simp, List.drop_left' (by first | (simp; done) | (simp; omega))]
/-- A name with more behind it. -/
theorem brk_name_on {s : ByteArray} {n : Nat} {S : Nat → Nat} {a : List UInt8} {d : UInt8} {r : List UInt8} {x : Option ((Nat → Nat) × Nat)} (hs : s.size ≤ 2147483648) (hn : n ≤ s.size) (hd : s.data.toList.drop n = 91 :: 58 :: (a ++ 58 :: 93 :: d :: r)) (hdd : d ≠ 93) (ha : isName a = true)
    (h : s.data.toList.drop (n + (a.length + 4)) = d :: r → Brk MaxAt s (n + (a.length + 4)) (bothS S (nameS a)) x) : Brk MaxAt s n S x := by
  have hI := itm_at s hs n
  rw [hd, itm_name ha] at hI
  have hl := drop_len hd hn
  simp only [List.length_cons, List.length_append] at hl
  have hdr : s.data.toList.drop (n + (a.length + 4)) = d :: r := by
    rw [← List.drop_drop, hd, show (91 :: 58 :: (a ++ 58 :: 93 :: d :: r) : List UInt8) = ([91, 58] ++ a ++ [58, 93]) ++ (d :: r) by simp, List.drop_left' (by first | (simp; done) | (simp; omega))]
  exact .more (nameS_ok a) hI (by omega) (by omega) (pre_open hdr hdd) (h hdr)
theorem brk_figure {s : ByteArray} {n : Nat} {S : Nat → Nat} {c : UInt8} {r : List UInt8} {x : Option ((Nat → Nat) × Nat)} (hs : s.size ≤ 2147483648) (hn : n ≤ s.size) (hd : s.data.toList.drop n = c :: 91 :: 58 :: r) (h0 : 48 ≤ c.toNat) (h1 : c.toNat ≤ 57)
    (h : s.data.toList.drop (n + 1) = 91 :: 58 :: r → Brk MaxAt s (n + 1) (bothS S (withS noS c.toNat c.toNat)) x) : Brk MaxAt s n S x := by
  have hI := itm_at s hs n
  rw [hd, itm_figure h0 h1] at hI
  have hl := drop_len hd hn
  simp only [List.length_cons] at hl
  have hdr : s.data.toList.drop (n + 1) = 91 :: 58 :: r := by rw [← List.drop_drop, hd]; rfl
  exact .more (OkS.no.withS _ _) hI (by omega) (by omega) (pre_open hdr (by decide)) (h hdr)

theorem set_one (X : Nat → Nat) (hX : OkS X) : setV (bothS noS X) = setV X := setV_eq (OkS.no.both hX) hX fun c _ => by rw [has_both, has_no, Bool.false_or]
theorem set_three (X Y : Nat → Nat) (hX : OkS X) (hY : OkS Y) (c : Nat) : setV (bothS (bothS (bothS noS (withS noS c c)) X) Y) = setV (withS (bothS X Y) c c) :=
  setV_eq (((OkS.no.both (OkS.no.withS _ _)).both hX).both hY) ((hX.both hY).withS _ _) fun d _ => by
    rw [has_both, has_both, has_both, has_with, has_with, has_both, has_no, Bool.false_or, Bool.false_or]
    cases has X d <;> cases has Y d <;> cases (decide (c ≤ d) && decide (d ≤ c)) <;> rfl
theorem set_turned (X : Nat → Nat) (hX : OkS X) : setV (notS (withS (bothS noS X) 10 10)) = setV (notS (withS X 10 10)) :=
  setV_eq (((OkS.no.both hX).withS _ _).not) ((hX.withS _ _).not) fun d _ => by rw [has_not, has_not, has_with, has_with, has_both, has_no, Bool.false_or]

/-- string([]byte of one) -/
theorem run_text1 (p : UInt8) (W : World) : (convert 64 9 (.slice (some ⟨W.heap.size, 0, none⟩) 1 1)).run Try.prog (W.alloc (.cells #[.int .u8 (p.toNat : Int)] 5)) =
    .ok (.string ⟨#[p]⟩) (W.alloc (.cells #[.int .u8 (p.toNat : Int)] 5)) := by
  refine run_convert_bytes_back (P := Try.prog) _ 64 9 5 ⟨W.heap.size, 0, none⟩ 1 [p] Try.underlying64 Try.underlying5 Try.underlying9 (fun j hj => ?_)
  match j, hj with
  | 0, _ => simp [Addr.add, go_sem]

/-- The three brackets. -/
theorem brackets3 (a b : ByteArray) (c : UInt8) (ha : isName a.toList = true) (hb : isName b.toList = true) (la : a.size ≤ 100) (lb : b.size ≤ 100) (h0 : 48 ≤ c.toNat) (h1 : c.toNat ≤ 57) (W : World) (hM : MaxAt W) :
    (Calls Try.prog 47 #[.string (⟨#[91, 58]⟩ ++ a ++ ⟨#[58, 93, 93]⟩)] W fun e w' => e = .returned (.tuple #[setV (nameS a.toList), .int .i64 ((a.size : Int) + 5), .int .i64 0]) ∧ Below W.heap.size W w') ∧
    (Calls Try.prog 47 #[.string (⟨#[c]⟩ ++ ⟨#[91, 58]⟩ ++ a ++ ⟨#[58, 93, 91, 58]⟩ ++ b ++ ⟨#[58, 93, 93]⟩)] W fun e w' => e = .returned (.tuple #[setV (withS (bothS (nameS a.toList) (nameS b.toList)) c.toNat c.toNat), .int .i64 ((a.size : Int) + (b.size : Int) + 10), .int .i64 0]) ∧ Below W.heap.size W w') ∧
    (Calls Try.prog 47 #[.string (⟨#[94, 91, 58]⟩ ++ a ++ ⟨#[58, 93, 93]⟩)] W fun e w' => ∃ n : Nat, e = .returned (.tuple #[setV (notS (withS (nameS a.toList) 10 10)), .int .i64 (n : Int), .int .i64 0]) ∧ Below W.heap.size W w') := by
  have ea : a.data.toList = a.toList := by rw [ByteArray.toList_eq]
  have eb : b.data.toList = b.toList := by rw [ByteArray.toList_eq]
  have la' : a.toList.length = a.size := by rw [← ea]; simp
  have lb' : b.toList.length = b.size := by rw [← eb]; simp
  refine ⟨?_, ?_, ?_⟩
  · obtain ⟨s, hs⟩ : ∃ s : ByteArray, s = ⟨#[91, 58]⟩ ++ a ++ ⟨#[58, 93, 93]⟩ := ⟨_, rfl⟩
    have hl : s.data.toList = 91 :: 58 :: (a.toList ++ [58, 93, 93]) := by rw [hs, ← ea]; simp
    have hz : s.size ≤ 2147483648 := by rw [size_of hl]; simp only [List.length_cons, List.length_append, List.length_nil]; omega
    rw [← hs]
    have k := brk_name (s := s) (n := 0) (S := noS) hz (Nat.zero_le _) hl ha
    have h := bracket_is MaxAt (fun _ _ h hb => h.below hb) s false (by unfold pre; rw [hl]; rfl) _ k (by omega) W hM
    simp only [brkV, Bool.false_eq_true, if_false] at h
    rw [set_one _ (nameS_ok _)] at h
    rw [show ((0 + (a.toList.length + 4) + 1 : Nat) : Int) = (a.size : Int) + 5 by rw [la']; omega] at h
    exact h
  · obtain ⟨s, hs⟩ : ∃ s : ByteArray, s = ⟨#[c]⟩ ++ ⟨#[91, 58]⟩ ++ a ++ ⟨#[58, 93, 91, 58]⟩ ++ b ++ ⟨#[58, 93, 93]⟩ := ⟨_, rfl⟩
    have hl : s.data.toList = c :: 91 :: 58 :: (a.toList ++ 58 :: 93 :: 91 :: 58 :: (b.toList ++ [58, 93, 93])) := by rw [hs, ← ea, ← eb]; simp
    have hz : s.size ≤ 2147483648 := by rw [size_of hl]; simp only [List.length_cons, List.length_append, List.length_nil]; omega
    have hz2 := size_of hl
    simp only [List.length_cons, List.length_append, List.length_nil] at hz2
    rw [← hs]
    have nc : c ≠ 94 := fun e => by subst e; exact absurd h1 (by decide)
    have k : Brk MaxAt s 0 noS (some (bothS (bothS (bothS noS (withS noS c.toNat c.toNat)) (nameS a.toList)) (nameS b.toList), 0 + 1 + (a.toList.length + 4) + (b.toList.length + 4))) :=
      brk_figure hz (Nat.zero_le _) hl h0 h1 fun hd => brk_name_on hz (by omega) hd (by decide) ha fun hd2 => brk_name hz (by omega) hd2 hb
    have h := bracket_is MaxAt (fun _ _ h hb => h.below hb) s false (by unfold pre; rw [hl]; simp [List.isPrefixOf, Ne.symm nc]) _ k (by omega) W hM
    simp only [brkV, Bool.false_eq_true, if_false] at h
    rw [set_three _ _ (nameS_ok _) (nameS_ok _)] at h
    rw [show ((0 + 1 + (a.toList.length + 4) + (b.toList.length + 4) + 1 : Nat) : Int) = (a.size : Int) + (b.size : Int) + 10 by rw [la', lb']; omega] at h
    exact h
  · obtain ⟨s, hs⟩ : ∃ s : ByteArray, s = ⟨#[94, 91, 58]⟩ ++ a ++ ⟨#[58, 93, 93]⟩ := ⟨_, rfl⟩
    have hl : s.data.toList = 94 :: 91 :: 58 :: (a.toList ++ [58, 93, 93]) := by rw [hs, ← ea]; simp
    have hz : s.size ≤ 2147483648 := by rw [size_of hl]; simp only [List.length_cons, List.length_append, List.length_nil]; omega
    have hz2 := size_of hl
    simp only [List.length_cons, List.length_append, List.length_nil] at hz2
    rw [← hs]
    have k := brk_name (s := s) (n := 1) (S := noS) hz (by omega) (by rw [hl]; rfl) ha
    have h := bracket_is MaxAt (fun _ _ h hb => h.below hb) s true (by unfold pre; rw [hl]; rfl) _ k (by omega) W hM
    simp only [brkV, if_true] at h
    rw [set_turned _ (nameS_ok _)] at h
    exact h.mono fun e w' h => ⟨_, h⟩

set_option maxRecDepth 100000 in
set_option maxHeartbeats 8000000 in
theorem inside_any (a b : ByteArray) (c : UInt8) (w : World) (hM : MaxAt w) :
    Calls Try.prog 14 #[.string a, .string b, .int .u8 (c.toNat : Int)] w (TrueC w) := by
  have HAL := Lib.hid fun (W : World) => alive_c W
  have hc8 := c.toNat_lt
  by_cases h1 : 100 < a.size
  · have i1 : (100 : Int) < (a.size : Int) := by omega
    clear h1
    go_enter Try.func14, Try.ntmps14
    go_wp2_with fail
    go_at_call 34
    refine (HAL.out _).mono ?_
    rintro e w1 ⟨rfl, hw1⟩
    have HW := Lib.hid hw1
    clear hw1
    go_wp2_with fail
    go_ret
    exact ⟨rfl, HW.out⟩
  · have i1 : ¬ (100 : Int) < (a.size : Int) := by omega
    by_cases h2 : 100 < b.size
    · have i2 : (100 : Int) < (b.size : Int) := by omega
      clear h1 h2
      go_enter Try.func14, Try.ntmps14
      go_wp2_with fail
      go_at_call 34
      refine (HAL.out _).mono ?_
      rintro e w1 ⟨rfl, hw1⟩
      have HW := Lib.hid hw1
      clear hw1
      go_wp2_with fail
      go_ret
      exact ⟨rfl, HW.out⟩
    · have i2 : ¬ (100 : Int) < (b.size : Int) := by omega
      by_cases h3 : c.toNat < 48
      · have i3 : (c.toNat : Int) < 48 := by omega
        have e3 : decide ((c.toNat : Int) < 48) = true := decide_eq_true i3
        clear h1 h2 h3
        go_enter Try.func14, Try.ntmps14
        go_wp2_with fail
        go_at_call 34
        refine (HAL.out _).mono ?_
        rintro e w1 ⟨rfl, hw1⟩
        have HW := Lib.hid hw1
        clear hw1
        go_wp2_with fail
        go_ret
        exact ⟨rfl, HW.out⟩
      · have i3 : ¬ (c.toNat : Int) < 48 := by omega
        have j3 : (48 : Int) ≤ (c.toNat : Int) := by omega
        have e3 : decide ((c.toNat : Int) < 48) = false := decide_eq_false i3
        by_cases h4 : 57 < c.toNat
        · have i4 : (57 : Int) < (c.toNat : Int) := by omega
          have e4 : decide ((57 : Int) < (c.toNat : Int)) = true := decide_eq_true i4
          clear h1 h2 h3 h4
          go_enter Try.func14, Try.ntmps14
          go_wp2_with fail
          go_at_call 34
          refine (HAL.out _).mono ?_
          rintro e w1 ⟨rfl, hw1⟩
          have HW := Lib.hid hw1
          clear hw1
          go_wp2_with fail
          go_ret
          exact ⟨rfl, HW.out⟩
        · have i4 : ¬ (57 : Int) < (c.toNat : Int) := by omega
          have j3 : (48 : Int) ≤ (c.toNat : Int) := by omega
          have j4 : (c.toNat : Int) ≤ 57 := by omega
          have e4 : decide ((57 : Int) < (c.toNat : Int)) = false := decide_eq_false i4
          have HNA := Lib.hid (named2_is a)
          have HNB := Lib.hid (named2_is b)
          have HKK := Lib.hid fun (ha : isName a.toList = true) (hb : isName b.toList = true) => brackets3 a b c ha hb (by omega) (by omega) (by omega) (by omega)
          have HOX := Lib.hid (nameS_ok a.toList)
          have HOY := Lib.hid (nameS_ok b.toList)
          have la : (a.size : Int) ≤ 100 := by omega
          have lb : (b.size : Int) ≤ 100 := by omega
          have HMM := Lib.hid hM
          have HCV := Lib.hid (run_text1 c)
          have HC5 := Lib.hid (And.intro (Nat.le_of_not_lt h3) (Nat.le_of_not_lt h4))
          generalize nameS a.toList = X at *
          generalize nameS b.toList = Y at *
          generalize isName a.toList = p at *
          generalize isName b.toList = q at *
          clear h1 h2 h3 h4 hM
          generalize c.toNat = cn at *
          unfold setV at HNA HNB
          go_enter Try.func14, Try.ntmps14
          go_wp2_with fail
          go_at_call 45
          refine (HNA.out _).mono ?_
          rintro e w1 ⟨rfl, hw1⟩
          have HB1 := Lib.hid hw1
          clear hw1
          go_wp2_with fail
          go_at_call 45
          refine (HNB.out _).mono ?_
          rintro e w2 ⟨rfl, hw2⟩
          have XX2 := Lib.hid ((Box.new w1 X 69).below hw2 (by simp))
          have hb2 := ((Below.refl _ w1).alloc (Nat.le_refl _) (.cells #[.int .u64 (X 0), .int .u64 (X 1), .int .u64 (X 2), .int .u64 (X 3)] 69)).trans (hw2.mono (by simp))
          have HB2 := Lib.hid (HB1.out.trans (hb2.mono HB1.out.size))
          have HL2 := Lib.hid (Nat.lt_of_lt_of_le (show w1.heap.size < (w1.alloc (.cells #[.int .u64 (X 0), .int .u64 (X 1), .int .u64 (X 2), .int .u64 (X 3)] 69)).heap.size by simp) hw2.size)
          clear hw2 hb2
          cases p with
          | false =>
            clear HKK
            go_wp2_with fail
            go_at_call 34
            refine (HAL.out _).mono ?_
            rintro e w3 ⟨rfl, hw3⟩
            have HW := Lib.hid ((HB2.out.alloc HB2.out.size (.cells #[.int .u64 (Y 0), .int .u64 (Y 1), .int .u64 (Y 2), .int .u64 (Y 3)] 69)).trans (hw3.mono (by simpa using Nat.le_succ_of_le HB2.out.size)))
            clear hw3
            go_wp2_with fail
            go_ret
            exact ⟨rfl, HW.out⟩
          | true =>
            cases q with
            | false =>
              clear HKK
              go_wp2_with fail
              go_at_call 34
              refine (HAL.out _).mono ?_
              rintro e w3 ⟨rfl, hw3⟩
              have HW := Lib.hid ((HB2.out.alloc HB2.out.size (.cells #[.int .u64 (Y 0), .int .u64 (Y 1), .int .u64 (Y 2), .int .u64 (Y 3)] 69)).trans (hw3.mono (by simpa using Nat.le_succ_of_le HB2.out.size)))
              clear hw3
              go_wp2_with fail
              go_ret
              exact ⟨rfl, HW.out⟩
            | true =>
              have HK := Lib.hid (HKK.out rfl rfl)
              clear HKK
              have hal3 := (Below.refl w2.heap.size w2).alloc (Nat.le_refl _) (.cells #[.int .u64 (Y 0), .int .u64 (Y 1), .int .u64 (Y 2), .int .u64 (Y 3)] 69)
              have K1 := Lib.hid (HK.out _ (HMM.out.below (HB2.out.trans (hal3.mono HB2.out.size)))).1
              have HW3 := Lib.hid hal3
              clear hal3
              unfold setV at K1
              go_wp2_with fail
              go_at_call 47
              refine K1.out.mono ?_
              rintro e w3 ⟨rfl, hw3⟩
              have HY3 := Lib.hid ((Box.new w2 Y 69).below hw3 (by simp))
              have hb3 := HW3.out.trans (hw3.mono (by simp))
              have HX3 := Lib.hid (XX2.out.below hb3 HL2.out)
              have HB3 := Lib.hid (HB2.out.trans (hb3.mono HB2.out.size))
              have HL3 := Lib.hid (And.intro (Nat.lt_of_lt_of_le HL2.out hb3.size) (Nat.lt_of_lt_of_le (show w2.heap.size < (w2.alloc (.cells #[.int .u64 (Y 0), .int .u64 (Y 1), .int .u64 (Y 2), .int .u64 (Y 3)] 69)).heap.size by simp) hw3.size))
              clear hw3 hb3 K1
              have hcv := HCV.out (w3.alloc (.cells #[.int .u64 (X 0), .int .u64 (X 1), .int .u64 (X 2), .int .u64 (X 3)] 69))
              rw [World.size_alloc] at hcv
              go_wp2_with fail
              go_at_call 47
              have hal := ((Below.refl w3.heap.size w3).alloc (Nat.le_refl _) (.cells #[.int .u64 (X 0), .int .u64 (X 1), .int .u64 (X 2), .int .u64 (X 3)] 69)).alloc (by simp) (.cells #[.int .u8 (cn : Int)] 5)
              have HAL3 := Lib.hid hal
              have K2 := Lib.hid (HK.out _ (HMM.out.below (HB3.out.trans (hal.mono HB3.out.size)))).2.1
              have HTO := Lib.hid ((HOX.out.both HOY.out).withS cn cn)
              obtain ⟨T, hT⟩ : ∃ T, T = withS (bothS X Y) cn cn := ⟨_, rfl⟩
              rw [← hT] at K2 HTO
              have HT := Lib.hid hT
              clear hal hT hcv
              unfold setV at K2
              refine K2.out.mono ?_
              rintro e w4 ⟨rfl, hw4⟩
              have hb4 := HAL3.out.trans (hw4.mono (by simp; omega))
              have HX4 := Lib.hid (HX3.out.below hb4 HL3.out.1)
              have HY4 := Lib.hid (HY3.out.below hb4 HL3.out.2)
              have HS4 := Lib.hid (((Box.new w3 X 69).below ((Below.refl _ _).alloc (Nat.le_refl _) (.cells #[.int .u8 (cn : Int)] 5)) (by simp)).below hw4 (by simp; omega))
              have HB4 := Lib.hid (HB3.out.trans (hb4.mono HB3.out.size))
              have HL4 := Lib.hid (And.intro (Nat.lt_of_lt_of_le HL3.out.1 hb4.size) (And.intro (Nat.lt_of_lt_of_le HL3.out.2 hb4.size) (Nat.lt_of_lt_of_le (show w3.heap.size < ((w3.alloc (.cells #[.int .u64 (X 0), .int .u64 (X 1), .int .u64 (X 2), .int .u64 (X 3)] 69)).alloc (.cells #[.int .u8 (cn : Int)] 5)).heap.size by simp; omega) hw4.size)))
              clear hw4 hb4 K2 HX3 HY3 HAL3
              have hal := (Below.refl w4.heap.size w4).alloc (Nat.le_refl _) (.cells #[.int .u64 (T 0), .int .u64 (T 1), .int .u64 (T 2), .int .u64 (T 3)] 69)
              have K3 := Lib.hid (HK.out _ (HMM.out.below (HB4.out.trans (hal.mono HB4.out.size)))).2.2
              have HAL4 := Lib.hid hal
              have HUO := Lib.hid ((HOX.out.withS 10 10).not)
              have HWX := Lib.hid fun (W : World) => with_is X 10 10 HOX.out (by decide) (by decide) W
              have HNX := Lib.hid fun (W : World) => not_is (withS X 10 10) (HOX.out.withS _ _) W
              generalize notS (withS X 10 10) = U at K3 HUO HNX
              generalize withS X 10 10 = Z at HWX HNX
              clear hal HK
              unfold setV at K3 HWX HNX
              simp only [Int.cast_ofNat_Int] at HWX
              go_wp2_with fail
              go_at_call 47
              refine K3.out.mono ?_
              rintro e w5 ⟨n5, rfl, hw5⟩
              have hb5 := HAL4.out.trans (hw5.mono (by simp))
              have HX5 := Lib.hid (HX4.out.below hb5 HL4.out.1)
              have HY5 := Lib.hid (HY4.out.below hb5 HL4.out.2.1)
              have HS5 := Lib.hid (HS4.out.below hb5 HL4.out.2.2)
              have HT5 := Lib.hid ((Box.new w4 T 69).below hw5 (by simp))
              have HB5 := Lib.hid (HB4.out.trans (hb5.mono HB4.out.size))
              have HL5 := Lib.hid (And.intro (Nat.lt_of_lt_of_le HL4.out.1 hb5.size) (And.intro (Nat.lt_of_lt_of_le HL4.out.2.1 hb5.size) (And.intro (Nat.lt_of_lt_of_le HL4.out.2.2 hb5.size) (Nat.lt_of_lt_of_le (show w4.heap.size < (w4.alloc (.cells #[.int .u64 (T 0), .int .u64 (T 1), .int .u64 (T 2), .int .u64 (T 3)] 69)).heap.size by simp) hw5.size))))
              clear hw5 hb5 K3 HX4 HY4 HS4 HAL4
              have HBX := Lib.hid fun (W : World) => both_is X Y HOX.out HOY.out W
              have HWV := Lib.hid fun (W : World) => with_is (bothS X Y) cn cn (HOX.out.both HOY.out) (by have := HC5.out; omega) (by have := HC5.out; omega) W
              rw [← HT.out] at HWV
              generalize bothS X Y = B at HBX HWV
              unfold setV at HBX HWV
              obtain ⟨x0, x1, x2, x3⟩ := HX5.out
              obtain ⟨y0, y1, y2, y3⟩ := HY5.out
              have l1 := HL5.out.1
              have l2 := HL5.out.2.1
              go_wp2_with fail
              go_at_call 41
              refine (HBX.out _).mono ?_
              rintro e w6 ⟨rfl, hw6⟩
              have HW6 := Lib.hid hw6
              clear hw6 x0 x1 x2 x3 y0 y1 y2 y3
              go_wp2_with fail
              go_at_call 37
              refine (HWV.out _).mono ?_
              rintro e w7 ⟨rfl, hw7⟩
              have hb6 := (HW6.out.trans (hw7.mono HW6.out.size))
              have hal5 := (Below.refl w5.heap.size w5).alloc (Nat.le_refl _) (.cells #[.int .u64 (U 0), .int .u64 (U 1), .int .u64 (U 2), .int .u64 (U 3)] 69)
              have hb7 := hal5.trans (hb6.mono (by simp))
              have hal7 := (Below.refl w7.heap.size w7).alloc (Nat.le_refl _) (.cells #[.int .u64 (T 0), .int .u64 (T 1), .int .u64 (T 2), .int .u64 (T 3)] 69)
              have hb8 := hb7.trans (hal7.mono hb7.size)
              have l5 : w5.heap.size < w7.heap.size := Nat.lt_of_lt_of_le (by simp) hb6.size
              have HU7 := (((Box.new w5 U 69).below hb6 (by simp)).below hal7 l5)
              have HX7 := HX5.out.below hb8 HL5.out.1
              have HY7 := HY5.out.below hb8 HL5.out.2.1
              have HS7 := HS5.out.below hb8 HL5.out.2.2.1
              have HT7 := HT5.out.below hb8 HL5.out.2.2.2
              have HV7 := Box.new w7 T 69
              have HBR := Lib.hid (HB5.out.trans (hb8.mono HB5.out.size))
              have hz5 : wrap64 ((a.size : Int) + 5) = (a.size : Int) + 5 := IntWalk.wrap64_in _ (by omega)
              have hz6 : wrap64 ((a.size : Int) + (b.size : Int)) = (a.size : Int) + (b.size : Int) := IntWalk.wrap64_in _ (by omega)
              have hz10 : wrap64 ((a.size : Int) + (b.size : Int) + 10) = (a.size : Int) + (b.size : Int) + 10 := IntWalk.wrap64_in _ (by omega)
              clear hb6 hal5 hb7 hal7 hb8 hw7 HW6 HBX HWV HX5 HY5 HS5 HT5 l1 l2 l5
              go_upto_region 11 with fail
              obtain ⟨wr, hwr⟩ : ∃ wr, wr = w7.alloc (.cells #[.int .u64 (T 0), .int .u64 (T 1), .int .u64 (T 2), .int .u64 (T 3)] 69) := ⟨_, rfl⟩
              rw [← hwr] at HU7 HX7 HY7 HS7 HT7 HV7 HBR ⊢
              clear hwr
              obtain ⟨u0, u1, u2, u3⟩ := HU7
              obtain ⟨x0, x1, x2, x3⟩ := HX7
              obtain ⟨s0, s1, s2, s3⟩ := HS7
              obtain ⟨t0, t1, t2, t3⟩ := HT7
              obtain ⟨v0, v1, v2, v3⟩ := HV7
              have u0 := cell_regrown u0
              have u1 := cell_regrown u1
              have u2 := cell_regrown u2
              have u3 := cell_regrown u3
              have x0 := cell_regrown x0
              have x1 := cell_regrown x1
              have x2 := cell_regrown x2
              have x3 := cell_regrown x3
              have s0 := cell_regrown s0
              have s1 := cell_regrown s1
              have s2 := cell_regrown s2
              have s3 := cell_regrown s3
              have t0 := cell_regrown t0
              have t1 := cell_regrown t1
              have t2 := cell_regrown t2
              have t3 := cell_regrown t3
              have v0 := cell_regrown v0
              have v1 := cell_regrown v1
              have v2 := cell_regrown v2
              have v3 := cell_regrown v3
              have RAL := Lib.hid (RG.of alive_c wr)
              have RW := Lib.hid (RG.of HWX.out wr)
              have RN := Lib.hid (RG.of HNX.out wr)
              unfold RG at RAL RW RN
              have EX := eq_self X
              have ET := eq_self T
              have EU := eq_self U
              clear HWX HNX HAL HMM HCV HNA HNB
              refine wp_region_quiet_below (by kernel_rfl) (by kernel_rfl) ?_
              repeat (go_big_quiet_step (first | (with_reducible exact RAL.out _ _) | (with_reducible exact RW.out _ _) | (with_reducible exact RN.out _ _)))
              refine wpQuiet_nil ?_
              rintro w9 ⟨⟨dq, osq⟩, rfl⟩
              have HB9 := Lib.hid (HBR.out.trans ((below_regrown wr dq osq).mono HBR.out.size))
              generalize grow (redrawn wr dq) osq = w9 at HB9 ⊢
              clear u0 u1 u2 u3 x0 x1 x2 x3 s0 s1 s2 s3 t0 t1 t2 t3 v0 v1 v2 v3 RAL RW RN EX ET EU
              go_wp2_with fail
              go_ret
              exact ⟨rfl, HB9.out⟩
theorem inside_nat (a b : ByteArray) (c : Nat) (hc : c < 256) (w : World) (hM : MaxAt w) :
    Calls Try.prog 14 #[.string a, .string b, .int .u8 (c : Int)] w (TrueC w) := by
  have h := inside_any a b (UInt8.ofNat c) w hM
  have ex : (UInt8.ofNat c).toNat = c := by simp; omega
  rw [ex] at h
  exact h
end Go.Proofs.Ytkcijfimeidiaaa

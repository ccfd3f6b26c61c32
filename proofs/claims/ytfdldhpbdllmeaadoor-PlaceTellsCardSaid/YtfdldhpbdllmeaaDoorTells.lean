/-
  The walk of PlaceTells: it returns true; it may draw and lay new blocks. Conditions: the text is no longer than a machine's; the listed table holds what the program's text lays.
-/
import Derived.Test.YtfdldhpbdllmeaaDoorText
import Derived.Test.YtfdldhpbdllmeaaDoorAt
namespace Go.Proofs.YtfdldhpbdllmeaaDoor
open Go.RowKit

/-- What place.Moved, and the reference's, may answer at any words. -/
def MovP (a b : Nat) (l : List UInt8) (r i : Nat) : Prop := if (cnt l).1 = 0 then IsSum a 0 r ∧ IsSum b (rungOf (cnt l).2) i else IsSum a (rungOf (cnt l).1) r ∧ i = rungOf ((cnt l).2 + 1)
def RefP (a b : Nat) (l : List UInt8) (r i : Nat) : Prop := if (cnt l).1 = 0 then r = a ∧ IsSum b (rungOf (cnt l).2) i else IsSum a (rungOf (cnt l).1) r ∧ i = rungOf ((cnt l).2 + 1)

theorem mov_ref (a b : Nat) (l : List UInt8) (r i r' i' : Nat) (h : MovP a b l r i) (k : RefP a b l r' i') : ordC r i r' i' = 0 := by
  unfold MovP at h
  unfold RefP at k
  split at h
  · rename_i hc
    rw [if_pos hc] at k
    obtain ⟨rfl, k2⟩ := k
    exact ordC_zero _ _ _ _ (sum_zero_same _ _ h.1) (sum_same _ _ _ _ h.2 k2)
  · rename_i hc
    rw [if_neg hc] at k
    obtain ⟨k1, rfl⟩ := k
    obtain ⟨h1, rfl⟩ := h
    exact ordC_zero _ _ _ _ (sum_same _ _ _ _ h1 k1) (ordW_same _)

set_option maxHeartbeats 400000 in
theorem movedF_any (a b : Nat) (s : ByteArray) (w : World) (hs : s.size ≤ 300) :
    Calls Tryd.prog 15 #[.complex .f64 a b, .string s] w fun e w' => ∃ r i, e = .returned (.complex .f64 r i) ∧ MovP a b s.data.toList r i ∧ Below w.heap.size w w' := by
  have hl := cnt_le s.data.toList
  have hz : s.data.toList.length = s.size := by simp
  have hms : s.size ≤ maxLen := by unfold maxLen; omega
  by_cases hc : (cnt s.data.toList).1 = 0
  · have e0 : (((cnt s.data.toList).1 : Int) == 0) = true := by simp [hc]
    have r1 := fun w => run_sum_complex (P := Tryd.prog) 25 a b 0 (floatOfInt .f64 ((cnt s.data.toList).2 : Int)) w
    have H := Lib.hid hc
    have H2 := Lib.hid (f_int (cnt s.data.toList).2 (by omega))
    clear hc hz
    go_enter Tryd.func15, Tryd.ntmps15
    go_wp2_with (go_at_call 23; (with_reducible refine (measure_any s _ hms).mono ?_); rintro e w' ⟨rfl, rfl⟩)
    go_ret
    refine ⟨_, _, rfl, ?_, sumW_below _ _ _ _ _ (sumW_below _ _ _ _ _ (Below.refl _ _))⟩
    unfold MovP
    rw [if_pos H.out, ← H2.out]
    exact ⟨sumB_is _ _ _, sumB_is _ _ _⟩
  · have e0 : (((cnt s.data.toList).1 : Int) == 0) = false := by simp; omega
    have r1 := fun w => run_sum_float (P := Tryd.prog) 22 a (floatOfInt .f64 ((cnt s.data.toList).1 : Int)) w
    have H := Lib.hid hc
    have H1 := Lib.hid (f_int (cnt s.data.toList).1 (by omega))
    have H2 : Hid (floatOfInt .f64 (1 + ((cnt s.data.toList).2 : Int)) = rungOf ((cnt s.data.toList).2 + 1)) := Lib.hid (by rw [← f_int _ (by omega)]; congr 1; omega)
    have hb : (cnt s.data.toList).2 ≤ s.size := by omega
    clear hc hz
    go_enter Tryd.func15, Tryd.ntmps15
    go_wp2_with (go_at_call 23; (with_reducible refine (measure_any s _ hms).mono ?_); rintro e w' ⟨rfl, rfl⟩)
    go_ret
    refine ⟨_, _, rfl, ?_, sumW_below _ _ _ _ _ (Below.refl _ _)⟩
    unfold MovP
    rw [if_neg H.out, ← H1.out, ← H2.out]
    exact ⟨sumB_is _ _ _, rfl⟩

set_option maxHeartbeats 400000 in
theorem refMovedF_any (a b : Nat) (s : ByteArray) (w : World) (hs : s.size ≤ 300) :
    Calls Tryd.prog 16 #[.complex .f64 a b, .string s] w fun e w' => ∃ r i, e = .returned (.complex .f64 r i) ∧ RefP a b s.data.toList r i ∧ Below w.heap.size w w' := by
  have hl := cnt_le s.data.toList
  have hz : s.data.toList.length = s.size := by simp
  have hms : s.size ≤ maxLen := by unfold maxLen; omega
  by_cases hc : (cnt s.data.toList).1 = 0
  · have e0 : (((cnt s.data.toList).1 : Int) == 0) = true := by simp [hc]
    have r1 := fun w => run_sum_float (P := Tryd.prog) 22 b (floatOfInt .f64 ((cnt s.data.toList).2 : Int)) w
    have H := Lib.hid hc
    have H2 := Lib.hid (f_int (cnt s.data.toList).2 (by omega))
    clear hc hz
    go_enter Tryd.func16, Tryd.ntmps16
    go_wp2_with (go_at_call 21; (with_reducible refine (count_any s _ hms).mono ?_); rintro e w' ⟨rfl, rfl⟩)
    go_ret
    refine ⟨_, _, rfl, ?_, sumW_below _ _ _ _ _ (Below.refl _ _)⟩
    unfold RefP
    rw [if_pos H.out, ← H2.out]
    exact ⟨rfl, sumB_is _ _ _⟩
  · have e0 : (((cnt s.data.toList).1 : Int) == 0) = false := by simp; omega
    have r1 := fun w => run_sum_float (P := Tryd.prog) 22 a (floatOfInt .f64 ((cnt s.data.toList).1 : Int)) w
    have H := Lib.hid hc
    have H1 := Lib.hid (f_int (cnt s.data.toList).1 (by omega))
    have H2 := Lib.hid (f_int ((cnt s.data.toList).2 + 1) (by omega))
    have hb : (cnt s.data.toList).2 ≤ s.size := by omega
    clear hc hz
    go_enter Tryd.func16, Tryd.ntmps16
    go_wp2_with (go_at_call 21; (with_reducible refine (count_any s _ hms).mono ?_); rintro e w' ⟨rfl, rfl⟩)
    go_ret
    refine ⟨_, _, rfl, ?_, sumW_below _ _ _ _ _ (Below.refl _ _)⟩
    unfold RefP
    rw [if_neg H.out, ← H1.out, ← H2.out]
    exact ⟨sumB_is _ _ _, rfl⟩

abbrev colon : ByteArray := { data := #[58] }

theorem tab_on {w w' : World} (h : powTab w) (hb : Below w.heap.size w w') : powTab w' := Lib.tabBelow_of_tabIs h w' hb

set_option maxHeartbeats 400000 in
theorem textF_any (a b : Nat) (ta tb : ByteArray) (ha : TextOf a ta) (hb : TextOf b tb) (w : World) (htab : powTab w) :
    Calls Tryd.prog 19 #[.complex .f64 a b] w fun e w' => e = .returned (.string (ta ++ colon ++ tb)) ∧ Below w.heap.size w w' := by
  have z1 := ha.1
  have z2 := hb.1
  have HA := Lib.hid ha.2.1
  have HB := Lib.hid hb.2.1
  have HT := Lib.hid htab
  clear ha hb htab
  go_enter Tryd.func19, Tryd.ntmps19
  go_wp2_with fail
  go_at_call 26
  (with_reducible refine (HA.out _ HT.out).mono ?_)
  rintro e w1 ⟨rfl, hb1⟩
  have HT1 := Lib.hid (tab_on HT.out hb1)
  have HB1 := Lib.hid hb1
  clear hb1
  go_wp2_with fail
  go_at_call 26
  (with_reducible refine (HB.out _ HT1.out).mono ?_)
  rintro e w2 ⟨rfl, hb2⟩
  have HB2 := Lib.hid hb2
  clear hb2
  go_wp2_with fail
  go_ret
  exact ⟨rfl, HB1.out.trans (HB2.out.mono HB1.out.size)⟩

set_option maxHeartbeats 400000 in
theorem refTextF_any (a b : Nat) (ta tb : ByteArray) (ha : TextOf a ta) (hb : TextOf b tb) (w : World) :
    Calls Tryd.prog 20 #[.complex .f64 a b] w fun e w' => e = .returned (.string (ta ++ colon ++ tb)) ∧ w = w' := by
  have z1 := ha.1
  have z2 := hb.1
  have HA := Lib.hid ha.2.2
  have HB := Lib.hid hb.2.2
  clear ha hb
  go_enter Tryd.func20, Tryd.ntmps20
  go_wp2_with fail
  go_at_call 27
  (with_reducible refine (HA.out _).mono ?_)
  rintro e w1 ⟨rfl, rfl⟩
  go_wp2_with fail
  go_at_call 27
  (with_reducible refine (HB.out _).mono ?_)
  rintro e w2 ⟨rfl, rfl⟩
  go_wp2_with fail
  go_ret
  exact ⟨rfl, rfl⟩

set_option maxHeartbeats 1000000 in
theorem tells_short (a b c d : Nat) (s : ByteArray) (w : World) (hs : s.size ≤ 300) (htab : powTab w) :
    Calls Tryd.prog 4 #[.agg #[.float .f64 a, .float .f64 b], .agg #[.float .f64 c, .float .f64 d], .string s] w fun e w' => e = .returned (.bool true) ∧ Below w.heap.size w w' := by
  obtain ⟨ta, ha⟩ := texts_of a
  obtain ⟨tb, hb⟩ := texts_of b
  obtain ⟨T, hT⟩ : ∃ T : ByteArray, T = ta ++ colon ++ tb := ⟨_, rfl⟩
  obtain ⟨o, ho⟩ : ∃ o : Int, ordC a b c d = o := ⟨_, rfl⟩
  have h1 : ∀ w, powTab w → Calls Tryd.prog 19 #[.complex .f64 a b] w fun e w' => e = .returned (.string T) ∧ Below w.heap.size w w' := fun w h => by rw [hT]; exact textF_any a b ta tb ha hb w h
  have h2 : ∀ w, Calls Tryd.prog 20 #[.complex .f64 a b] w fun e w' => e = .returned (.string T) ∧ w = w' := fun w => by rw [hT]; exact refTextF_any a b ta tb ha hb w
  have h3 : ∀ w, Calls Tryd.prog 17 #[.complex .f64 a b, .complex .f64 c d] w fun e w' => e = .returned (.int .i64 o) ∧ w = w' := fun w => by rw [← ho]; exact compare_any _ _ _ _ w
  have h4 : ∀ w, Calls Tryd.prog 18 #[.complex .f64 a b, .complex .f64 c d] w fun e w' => e = .returned (.int .i64 o) ∧ w = w' := fun w => by rw [← ho]; exact refCompare_any _ _ _ _ w
  have H1 := Lib.hid h1
  have H2 := Lib.hid h2
  have H3 := Lib.hid h3
  have H4 := Lib.hid h4
  have H5 := Lib.hid (fun w => movedF_any a b s w hs)
  have H6 := Lib.hid (fun w => refMovedF_any a b s w hs)
  have HT := Lib.hid htab
  clear h1 h2 h3 h4 hT ho ha hb htab
  have hg : Below w.heap.size w ((w.alloc (.cells #[.float .f64 a, .float .f64 b] 23)).alloc (.cells #[.float .f64 c, .float .f64 d] 23)) := by go_grown
  have HG := Lib.hid hg
  clear hg
  go_enter Tryd.func4, Tryd.ntmps4
  go_wp2_with fail
  go_at_call 15
  (with_reducible refine (H5.out _).mono ?_)
  rintro e w1 ⟨r, i, rfl, hm, hb1⟩
  have HM := Lib.hid hm
  have B1 := Lib.hid (HG.out.trans (hb1.mono HG.out.size))
  clear hm hb1
  go_wp2_with fail
  go_at_call 16
  (with_reducible refine (H6.out _).mono ?_)
  rintro e w2 ⟨r', i', rfl, hm, hb2⟩
  have HS := Lib.hid (same_zero r i r' i' (mov_ref _ _ _ _ _ _ _ HM.out hm))
  have B2 := Lib.hid (B1.out.trans (hb2.mono B1.out.size))
  have T2 := Lib.hid (tab_on HT.out B2.out)
  clear hm hb2
  go_wp2_with fail
  go_at_call 9
  (with_reducible refine (alive_any _).mono ?_)
  rintro e w' ⟨rfl, rfl⟩
  go_wp2_with fail
  go_at_call 17
  (with_reducible refine (H3.out _).mono ?_)
  rintro e w' ⟨rfl, rfl⟩
  go_wp2_with fail
  go_at_call 18
  (with_reducible refine (H4.out _).mono ?_)
  rintro e w' ⟨rfl, rfl⟩
  go_wp2_with fail
  go_at_call 19
  (with_reducible refine (H1.out _ T2.out).mono ?_)
  rintro e w3 ⟨rfl, hb3⟩
  have B3 := Lib.hid (B2.out.trans (hb3.mono B2.out.size))
  clear hb3
  go_wp2_with fail
  go_at_call 20
  (with_reducible refine (H2.out _).mono ?_)
  rintro e w' ⟨rfl, rfl⟩
  go_wp2_with fail
  go_at_call 14
  (with_reducible refine (HS.out _).mono ?_)
  rintro e w' ⟨rfl, rfl⟩
  go_wp2_with fail
  go_ret
  exact ⟨rfl, B3.out⟩

set_option maxHeartbeats 400000 in
theorem tells_long (a b c d : Nat) (s : ByteArray) (w : World) (hm : s.size ≤ maxLen) (hs : 300 < s.size) :
    Calls Tryd.prog 4 #[.agg #[.float .f64 a, .float .f64 b], .agg #[.float .f64 c, .float .f64 d], .string s] w fun e w' => e = .returned (.bool true) ∧ Below w.heap.size w w' := by
  unfold maxLen at hm
  go_enter Tryd.func4, Tryd.ntmps4
  go_wp2_with (go_at_call 9; (with_reducible refine (alive_any _).mono ?_); rintro e w' ⟨rfl, rfl⟩)
  go_ret
  refine ⟨rfl, ?_⟩
  go_grown

theorem tells_any (a b c d : Nat) (s : ByteArray) (w : World) (hm : s.size ≤ maxLen) (htab : powTab w) :
    Calls Tryd.prog 4 #[.agg #[.float .f64 a, .float .f64 b], .agg #[.float .f64 c, .float .f64 d], .string s] w fun e w' => e = .returned (.bool true) ∧ Below w.heap.size w w' := by
  by_cases hs : 300 < s.size
  · exact tells_long a b c d s w hm hs
  · exact tells_short a b c d s w (by omega) htab
end Go.Proofs.YtfdldhpbdllmeaaDoor

/-
  The document's named: the name that stands at a place of a text. Condition: a place in a text, or just behind it.
-/
import Derived.Test.YtpeidgppcdkjdaaCnamesr
import Derived.Test.YtpeidgppcdkjdaaCitemn
import Derived.Test.YtpeidgppcdkjdaaCsingle
namespace Go.Proofs.Ytpeidgppcdkjdaa
open Go.RowKit

theorem occ_at {l : List UInt8} {j : Nat} : Lib.occAt l [58, 93] j = true ↔ ∃ r, l.drop j = 58 :: 93 :: r := by
  unfold Lib.occAt
  match h : l.drop j with
  | [] => simp [List.isPrefixOf]
  | [c] => simp [List.isPrefixOf]
  | c :: d :: r =>
    simp only [List.isPrefixOf, Bool.and_true, Bool.and_eq_true, beq_iff_eq, List.cons.injEq]
    constructor
    · rintro ⟨rfl, rfl⟩; exact ⟨r, rfl, rfl, rfl⟩
    · rintro ⟨r', rfl, rfl, _⟩; exact ⟨rfl, rfl⟩
theorem cut_found {l r : List UInt8} {j : Nat} (hj : l.drop j = 58 :: 93 :: r) (hn : Lib.NoOcc l [58, 93] j) : Lib.cut l [58, 93] = (l.take j, r, true) := by
  have hjl : j ≤ l.length := by
    apply Nat.le_of_not_lt
    intro h
    rw [List.drop_eq_nil_iff.2 (Nat.le_of_lt h)] at hj
    cases hj
  have hi := Lib.index_first hjl (occ_at.2 ⟨r, hj⟩) hn
  unfold Lib.cut
  rw [hi, if_pos (by omega)]
  have e : ((j : Nat) : Int).toNat = j := by omega
  rw [e]
  congr 2
  show l.drop (j + 2) = r
  rw [← List.drop_drop, hj]; rfl
theorem cut_not {l : List UInt8} (hn : ∀ j, j ≤ l.length → Lib.occAt l [58, 93] j = false) : (Lib.cut l [58, 93]).2.2 = false := by
  unfold Lib.cut
  rw [Lib.index_none hn, if_neg (by omega)]

/-- What the document's named answers at a place: a name that there is, or none. -/
def NameAt (s : ByteArray) (i : Nat) (w : World) (e : Ending) (w' : World) : Prop :=
  ∃ (A : Nat → Nat) (n : Int) (b : Bool), e = .returned (.tuple #[setV A, .int .i64 n, .bool b]) ∧ Below w.heap.size w w' ∧
    ((b = true ∧ OkS A ∧ [91, 58].isPrefixOf (s.data.toList.drop i) = true ∧ A = (itm (s.data.toList.drop i)).1 ∧ n = ((i + (itm (s.data.toList.drop i)).2 : Nat) : Int) ∧ 0 < (itm (s.data.toList.drop i)).2) ∨
     (b = false ∧ ([91, 58].isPrefixOf (s.data.toList.drop i) = true → itm (s.data.toList.drop i) = (noS, 0))))
theorem no_prefix {l : List UInt8} (h : ∀ r, l ≠ 91 :: 58 :: r) : ¬ [91, 58].isPrefixOf l = true := by
  intro hp
  obtain ⟨r, hr⟩ := List.isPrefixOf_iff_prefix.1 hp
  exact h r hr.symm
set_option maxRecDepth 100000 in
theorem rnm_short (s : ByteArray) (i : Nat) (hz : s.size ≤ 2147483648) (hi : i ≤ s.size) (hl : (s.data.toList.drop i).length < 2) (w : World) : Calls Try.prog 61 #[.string s, .int .i64 (i : Int)] w (NameAt s i w) := by
  have HNP := Lib.hid (show [91, 58].isPrefixOf (s.data.toList.drop i) = true → itm (s.data.toList.drop i) = (noS, 0) from fun h => absurd h (no_prefix fun r e => by rw [e] at hl; simp only [List.length_cons] at hl; omega))
  have hlen : s.data.toList.length = s.size := by simp
  have h1 : (s.size : Int) ≤ (i : Int) + 1 := by rw [List.length_drop] at hl; omega
  have hw : wrap64 ((i : Int) + 1) = (i : Int) + 1 := IntWalk.wrap64_in _ (by omega)
  clear hl hi hz hlen
  go_enter Try.func61, Try.ntmps61
  go_wp2_with fail
  refine bodyPost_ret (v := .tuple #[setV noS, .int .i64 0, .bool false]) (by simp [results, Try.results61, go_sem, setV, noS]) rfl ⟨noS, 0, false, rfl, (Below.refl _ w).alloc (Nat.le_refl _) _, .inr ⟨rfl, HNP.out⟩⟩
set_option maxRecDepth 100000 in
theorem rnm_other (s : ByteArray) (i : Nat) (hz : s.size ≤ 2147483648) (_hi : i ≤ s.size) {c : UInt8} {r : List UInt8} (hl : s.data.toList.drop i = c :: r) (hr : r ≠ []) (hc : c ≠ 91) (w : World) : Calls Try.prog 61 #[.string s, .int .i64 (i : Int)] w (NameAt s i w) := by
  have HNP := Lib.hid (show [91, 58].isPrefixOf (s.data.toList.drop i) = true → itm (s.data.toList.drop i) = (noS, 0) from fun h => absurd h (no_prefix fun r e => by rw [hl] at e; injection e with e _; exact hc e))
  obtain ⟨hj, h0⟩ := at_drop hl
  have hlen : s.data.toList.length = s.size := by simp
  have h1 : ¬ (s.size : Int) ≤ (i : Int) + 1 := fun h => hr (by rw [← drop_next hl]; exact List.drop_eq_nil_iff.2 (by omega))
  have h2 : (i : Int) + 1 < (s.size : Int) := by omega
  have e0 : ((c.toNat : Int) == 91) = false := tst c 91 91 rfl _ (by simp [hc])
  have e1 : ((c.toNat : Int) != 91) = true := by rw [bne, e0]; rfl
  have hw : wrap64 ((i : Int) + 1) = (i : Int) + 1 := IntWalk.wrap64_in _ (by omega)
  clear hl _hi hz hr hc hlen
  go_enter Try.func61, Try.ntmps61
  go_wp2_with fail
  refine bodyPost_ret (v := .tuple #[setV noS, .int .i64 0, .bool false]) (by simp [results, Try.results61, go_sem, setV, noS]) rfl ⟨noS, 0, false, rfl, (Below.refl _ w).alloc (Nat.le_refl _) _, .inr ⟨rfl, HNP.out⟩⟩
set_option maxRecDepth 100000 in
theorem rnm_open (s : ByteArray) (i : Nat) (hz : s.size ≤ 2147483648) (_hi : i ≤ s.size) {d : UInt8} {r : List UInt8} (hl : s.data.toList.drop i = 91 :: d :: r) (hd : d ≠ 58) (w : World) : Calls Try.prog 61 #[.string s, .int .i64 (i : Int)] w (NameAt s i w) := by
  have HNP := Lib.hid (show [91, 58].isPrefixOf (s.data.toList.drop i) = true → itm (s.data.toList.drop i) = (noS, 0) from fun h => absurd h (no_prefix fun r e => by rw [hl] at e; injection e with _ e; injection e with e _; exact hd e))
  obtain ⟨hj, h0⟩ := at_drop hl
  obtain ⟨hj2, h3⟩ := at_drop (drop_next hl)
  have h2 : (i : Int) + 1 < (s.size : Int) := by omega
  have e0 : ((d.toNat : Int) == 58) = false := tst d 58 58 rfl _ (by simp [hd])
  have e1 : ((d.toNat : Int) != 58) = true := by rw [bne, e0]; rfl
  have hw : wrap64 ((i : Int) + 1) = (i : Int) + 1 := IntWalk.wrap64_in _ (by omega)
  clear hl _hi hz hd
  go_enter Try.func61, Try.ntmps61
  go_wp2_with fail
  refine bodyPost_ret (v := .tuple #[setV noS, .int .i64 0, .bool false]) (by simp [results, Try.results61, go_sem, setV, noS]) rfl ⟨noS, 0, false, rfl, (Below.refl _ w).alloc (Nat.le_refl _) _, .inr ⟨rfl, HNP.out⟩⟩

theorem meas {a k : Nat} (h : k < a) : a - (intOf (.int .i64 ((k : Int) + 1))).toNat < a - (intOf (.int .i64 (k : Int))).toNat := by simp only [intOf]; omega
def NRel (s : ByteArray) (i : Nat) (w : World) (kv : Value) (wr : World) : Prop :=
  ∃ k : Nat, i + 2 ≤ k ∧ k ≤ s.size ∧ kv = .int .i64 (k : Int) ∧ wr = w.alloc (.cells #[.int .u64 0, .int .u64 0, .int .u64 0, .int .u64 0] 26) ∧ Lib.NoOcc (s.data.toList.drop (i + 2)) [58, 93] (k - (i + 2))
theorem run_slice_ab (s : ByteArray) (a b : Nat) (h : a ≤ b) (hb : b ≤ s.size) (w : World) : (Instr.slice 9 (.string s) (some (.int .i64 (a : Int))) (some (.int .i64 (b : Int))) none).run Try.prog w = .ok (.string (s.extract a b)) w := by
  have h1 : (a : Int) ≤ (b : Int) := Int.ofNat_le.2 h
  have h2 : (b : Int) ≤ (s.size : Int) := Int.ofNat_le.2 hb
  simp [Instr.slice, go_sem, h2, h]
theorem slice_list (s : ByteArray) (a b : Nat) : (s.extract a b).toList = (s.data.toList.drop a).take (b - a) := by
  rw [ByteArray.toList_eq]
  simp [List.extract_eq_take_drop]
set_option maxHeartbeats 2000000 in
set_option maxRecDepth 100000 in
theorem rnm_name (s : ByteArray) (i : Nat) (hz : s.size ≤ 2147483648) (_hi : i ≤ s.size) {r : List UInt8} (hl : s.data.toList.drop i = 91 :: 58 :: r) (w : World) : Calls Try.prog 61 #[.string s, .int .i64 (i : Int)] w (NameAt s i w) := by
  obtain ⟨hj, h0⟩ := at_drop hl
  obtain ⟨hj2, h3⟩ := at_drop (drop_next hl)
  have h2 : (i : Int) + 1 < (s.size : Int) := by omega
  have hw : wrap64 ((i : Int) + 1) = (i : Int) + 1 := IntWalk.wrap64_in _ (by omega)
  have hw2 : wrap64 ((i : Int) + 2) = (i : Int) + 2 := IntWalk.wrap64_in _ (by omega)
  have hr : s.data.toList.drop (i + 2) = r := drop_next (drop_next hl)
  have HIT := Lib.hid (show itm (s.data.toList.drop i) = nmd (s.data.toList.drop (i + 2)) by rw [hr, hl]; unfold itm; rw [if_pos (by simp [List.isPrefixOf])]; rfl)
  have HPX := Lib.hid (show [91, 58].isPrefixOf (s.data.toList.drop i) = true by rw [hl]; rfl)
  have HSZ := Lib.hid (And.intro hz (And.intro hj2 (show s.data.toList.length = s.size by simp)))
  clear hl hr _hi hz
  go_enter Try.func61, Try.ntmps61
  go_wp2_with fail
  go_loopw [7, 8, 9] (fun k _ _ wr => NRel s i w k wr) (fun k _ _ _ => s.size - (intOf k).toNat)
  case atStart => exact ⟨i + 2, Nat.le_refl _, HSZ.out.2.1, by rw [hw2]; rfl, rfl, by rw [Nat.sub_self]; exact Lib.NoOcc.zero _ _⟩
  case round =>
    obtain ⟨k, hk1, hk2, rfl, rfl, hno⟩ := hrel
    have HNO := Lib.hid hno
    have HK := Lib.hid (And.intro hk1 hk2)
    have hwk : wrap64 ((k : Int) + 1) = (k : Int) + 1 := IntWalk.wrap64_in _ (by have := HSZ.out; omega)
    have hdk : (s.data.toList.drop (i + 2)).drop (k - (i + 2)) = s.data.toList.drop k := by rw [List.drop_drop]; congr 1; omega
    clear hno hk1 hk2 h0 h3 h2 hw hw2
    match hl : s.data.toList.drop k with
    | [] =>
      have h1 : (s.size : Int) ≤ (k : Int) + 1 := by have := drop_end hl; omega
      have HEND := Lib.hid (show (Lib.cut (s.data.toList.drop (i + 2)) [58, 93]).2.2 = false from cut_not fun j hjl => by
        rcases Nat.lt_or_ge j (k - (i + 2)) with h | h
        · exact HNO.out j h
        · cases ho : Lib.occAt (s.data.toList.drop (i + 2)) [58, 93] j with
          | false => rfl
          | true =>
            obtain ⟨r', hr'⟩ := occ_at.1 ho
            have h5 := congrArg List.length hr'
            simp only [List.length_drop, List.length_cons] at h5
            have := HK.out
            have := HSZ.out
            have := drop_end hl
            omega)
      clear hl hdk
      go_wp2_with fail
      refine bodyPost_ret (v := .tuple #[setV noS, .int .i64 0, .bool false]) (by simp [results, Try.results61, go_sem, setV, noS]) rfl ⟨noS, 0, false, rfl, (Below.refl _ w).alloc (Nat.le_refl _) _, .inr ⟨rfl, fun _ => ?_⟩⟩
      rw [HIT.out]
      unfold nmd
      rw [HEND.out]
      exact if_neg fun h => Bool.false_ne_true h.1
    | [c] =>
      have hle := drop_end (drop_next hl)
      have h1 : (s.size : Int) ≤ (k : Int) + 1 := by omega
      have HEND := Lib.hid (show (Lib.cut (s.data.toList.drop (i + 2)) [58, 93]).2.2 = false from cut_not fun j hjl => by
        rcases Nat.lt_or_ge j (k - (i + 2)) with h | h
        · exact HNO.out j h
        · cases ho : Lib.occAt (s.data.toList.drop (i + 2)) [58, 93] j with
          | false => rfl
          | true =>
            obtain ⟨r', hr'⟩ := occ_at.1 ho
            have h5 := congrArg List.length hr'
            simp only [List.length_drop, List.length_cons] at h5
            have := HK.out
            have := HSZ.out
            omega)
      clear hl hdk hle
      go_wp2_with fail
      refine bodyPost_ret (v := .tuple #[setV noS, .int .i64 0, .bool false]) (by simp [results, Try.results61, go_sem, setV, noS]) rfl ⟨noS, 0, false, rfl, (Below.refl _ w).alloc (Nat.le_refl _) _, .inr ⟨rfl, fun _ => ?_⟩⟩
      rw [HIT.out]
      unfold nmd
      rw [HEND.out]
      exact if_neg fun h => Bool.false_ne_true h.1
    | c :: d :: q =>
      obtain ⟨hk, p0⟩ := at_drop hl
      obtain ⟨hk2, p1⟩ := at_drop (drop_next hl)
      have h1 : (k : Int) + 1 < (s.size : Int) := by omega
      by_cases hcd : c = 58 ∧ d = 93
      · obtain ⟨rfl, rfl⟩ := hcd
        have hcut := cut_found (hdk.trans hl) HNO.out
        obtain ⟨N, hN⟩ : ∃ N : ByteArray, N = s.extract (i + 2) k := ⟨_, rfl⟩
        have hNl : N.toList = (s.data.toList.drop (i + 2)).take (k - (i + 2)) := by rw [hN, slice_list]
        have HRN := Lib.hid (rnamed_is N)
        have hsl := fun (W : World) => run_slice_ab s (i + 2) k HK.out.1 HK.out.2 W
        rw [← hN, show ((i + 2 : Nat) : Int) = (i : Int) + 2 from rfl] at hsl
        have HOKN := Lib.hid (nameS_ok N.toList)
        have hsz : N.toList.length = k - (i + 2) := by rw [hNl, List.length_take, List.length_drop]; have := HSZ.out; omega
        have HNM := Lib.hid (show nmd (s.data.toList.drop (i + 2)) = if isName N.toList = true then (nameS N.toList, N.toList.length + 4) else (noS, 0) by unfold nmd; rw [hcut, ← hNl]; simp only [true_and])
        have hle : (i : Int) + 2 ≤ (k : Int) := by have := HK.out; omega
        have hle2 : (k : Int) ≤ (s.size : Int) := by omega
        have hw2 : wrap64 ((i : Int) + 2) = (i : Int) + 2 := IntWalk.wrap64_in _ (by have := HSZ.out; omega)
        have hwk2 : wrap64 ((k : Int) + 2) = (k : Int) + 2 := IntWalk.wrap64_in _ (by have := HSZ.out; omega)
        have HLEN := Lib.hid hsz
        rw [hNl] at hsz
        generalize nameS N.toList = S at *
        generalize isName N.toList = b at *
        generalize N.toList.length = m at *
        clear hl hdk hcut hNl hsz hN
        unfold setV at HRN
        have HFIN := Lib.hid (show (0 < m + 4 ∧ k + 2 = i + (m + 4)) by have := HK.out; have := HLEN.out; omega)
        clear hle2
        have hle2 : (k : Int) ≤ (s.size : Int) := Int.ofNat_le.2 HK.out.2
        go_wp2_with fail
        go_at_call 69
        refine (HRN.out _).mono ?_
        rintro e w1 ⟨rfl, hw1⟩
        have hzz := (BoxF.zero w 26).below hw1 (by simp)
        have l1 : w.heap.size < w1.heap.size := Nat.lt_of_lt_of_le (by simp) hw1.size
        have HB1 := Lib.hid (((Below.refl w.heap.size w).alloc (Nat.le_refl _) _).trans (hw1.mono (by simp)))
        have hbs := (Below.refl w1.heap.size w1).alloc (Nat.le_refl _) (.cells #[.int .u64 (S 0), .int .u64 (S 1), .int .u64 (S 2), .int .u64 (S 3)] 26)
        obtain ⟨⟨z0, z1, z2, z3⟩, g0, g1, g2, g3⟩ := hzz
        have HFI2 := Lib.hid ((below_st4 HB1.out (Nat.le_refl _) S).alloc (by rw [size_st4]; exact HB1.out.size) (.cells #[.int .u64 (S 0), .int .u64 (S 1), .int .u64 (S 2), .int .u64 (S 3)] 26))
        clear hw1 hbs
        go_wp2_with fail
        refine bodyPost_ret (v := .tuple #[setV S, .int .i64 ((k + 2 : Nat) : Int), .bool b]) (by simp [results, Try.results61, go_sem, setV, z0, z1, z2, z3, l1, hwk2]) rfl ⟨S, _, b, rfl, HFI2.out, ?_⟩
        rw [HIT.out, HNM.out]
        cases b with
        | true => exact .inl ⟨rfl, HOKN.out, HPX.out, rfl, by rw [HFIN.out.2]; rfl, HFIN.out.1⟩
        | false => exact .inr ⟨rfl, fun _ => rfl⟩
      · have hoc : Lib.occAt (s.data.toList.drop (i + 2)) [58, 93] (k - (i + 2)) = false := by
          cases ho : Lib.occAt (s.data.toList.drop (i + 2)) [58, 93] (k - (i + 2)) with
          | false => rfl
          | true =>
            obtain ⟨r', hr'⟩ := occ_at.1 ho
            rw [hdk, hl] at hr'
            injection hr' with a1 hr'
            injection hr' with a2 _
            exact absurd ⟨a1, a2⟩ hcd
        have HN2 := Lib.hid (show Lib.NoOcc (s.data.toList.drop (i + 2)) [58, 93] (k + 1 - (i + 2)) by
          have h := HNO.out.succ hoc
          rwa [show k - (i + 2) + 1 = k + 1 - (i + 2) by have := HK.out; omega] at h)
        by_cases hc : c = 58
        · have hd : d ≠ 93 := fun e => hcd ⟨hc, e⟩
          have e1 : ((c.toNat : Int) == 58) = true := tst c 58 58 rfl _ (by simp [hc])
          have e2 : ((d.toNat : Int) == 93) = false := tst d 93 93 rfl _ (by simp [hd])
          clear hl hdk hoc hc hd hcd
          go_wp2_with fail
          rw [hwk]
          exact ⟨⟨k + 1, Nat.le_succ_of_le HK.out.1, Nat.le_of_lt hk2, rfl, rfl, HN2.out⟩, meas hk⟩
        · have e1 : ((c.toNat : Int) == 58) = false := tst c 58 58 rfl _ (by simp [hc])
          clear hl hdk hoc hc hcd
          go_wp2_with fail
          rw [hwk]
          exact ⟨⟨k + 1, Nat.le_succ_of_le HK.out.1, Nat.le_of_lt hk2, rfl, rfl, HN2.out⟩, meas hk⟩
theorem rnm_is (s : ByteArray) (i : Nat) (hz : s.size ≤ 2147483648) (hi : i ≤ s.size) (w : World) : Calls Try.prog 61 #[.string s, .int .i64 (i : Int)] w (NameAt s i w) := by
  match hl : s.data.toList.drop i with
  | [] => exact rnm_short s i hz hi (by rw [hl]; decide) w
  | [c] => exact rnm_short s i hz hi (by rw [hl]; exact Nat.lt_succ_self 1) w
  | c :: d :: q =>
    by_cases hc : c = 91
    · by_cases hd : d = 58
      · subst hc; subst hd; exact rnm_name s i hz hi hl w
      · subst hc; exact rnm_open s i hz hi hl hd w
    · exact rnm_other s i hz hi hl (List.cons_ne_nil _ _) hc w
end Go.Proofs.Ytpeidgppcdkjdaa

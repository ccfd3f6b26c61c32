/-
  The program's intervals. Conditions: a text of at most 4096 bytes; the world holds what strings.Index asks.
-/
import Derived.Test.YtbehbbmhkkidfaaPnum
namespace Go.Proofs.Ytbehbbmhkkidfaa
open Go.RowKit Go.Deep

/-- A token's box, cell by cell. -/
def Box7 (w1 : World) (b : Nat) (v0 v1 v2 v3 v4 v5 v6 : Value) : Prop :=
    (w1.cell? ⟨b, 0, none⟩ = some v0 ∧ w1.cell? ⟨b, 1, none⟩ = some v1 ∧ w1.cell? ⟨b, 2, none⟩ = some v2 ∧ w1.cell? ⟨b, 3, none⟩ = some v3 ∧ w1.cell? ⟨b, 4, none⟩ = some v4 ∧ w1.cell? ⟨b, 5, none⟩ = some v5 ∧ w1.cell? ⟨b, 6, none⟩ = some v6) ∧
    (w1.frozen? ⟨b, 0, none⟩ = false ∧ w1.frozen? ⟨b, 1, none⟩ = false ∧ w1.frozen? ⟨b, 2, none⟩ = false ∧ w1.frozen? ⟨b, 3, none⟩ = false ∧ w1.frozen? ⟨b, 4, none⟩ = false ∧ w1.frozen? ⟨b, 5, none⟩ = false ∧ w1.frozen? ⟨b, 6, none⟩ = false)
theorem box7k {w w1 : World} {b n : Nat} {v0 v1 v2 v3 v4 v5 v6 : Value} (hx : Box7 w b v0 v1 v2 v3 v4 v5 v6) (h : Below n w w1) (hn : b < n) : Box7 w1 b v0 v1 v2 v3 v4 v5 v6 := by
  obtain ⟨⟨k0, k1, k2, k3, k4, k5, k6⟩, f0, f1, f2, f3, f4, f5, f6⟩ := hx
  refine ⟨⟨?_, ?_, ?_, ?_, ?_, ?_, ?_⟩, ?_, ?_, ?_, ?_, ?_, ?_, ?_⟩
  all_goals first | (rw [h.cell hn]; assumption) | (rw [h.frozen hn]; assumption)
theorem cut_lenP (l sep : List UInt8) : (Lib.cut l sep).1.length ≤ l.length ∧ (Lib.cut l sep).2.1.length ≤ l.length := by
  unfold Lib.cut
  split
  · refine ⟨?_, ?_⟩ <;> simp <;> omega
  · simp
theorem bytes_of (l : List UInt8) : (⟨l.toArray⟩ : ByteArray).data.toList = l := by simp
set_option maxRecDepth 100000 in
set_option maxHeartbeats 4000000 in
theorem interval_tok (s f t : ByteArray) {r : List UInt8} (hf : f.size ≤ s.size) (hr : (s.extract f.size s.size).data.toList = r) (hz : s.size ≤ 4096) (hft : f.size + t.size ≤ 100) (w : World) (hM : MaxAt w) :
    Calls Try.prog 31 #[.string s, .string f, .string t] w (TokAns (intT f.size t.data.toList r) w) := by
  obtain ⟨m, hm⟩ := hM.below (bA w (.cells #[.int .i64 0, .int .u64 0, .int .u64 0, .int .u64 0, .int .u64 0, .int .i64 0, .int .i64 0] 60))
  have hfi : (f.size : Int) ≤ (s.size : Int) := by omega
  have hrl : r.length ≤ 4096 := by rw [← hr]; simp; omega
  have hc1 := Try.strings_Cut (s.extract f.size s.size) t m (w.alloc (.cells #[.int .i64 0, .int .u64 0, .int .u64 0, .int .u64 0, .int .u64 0, .int .i64 0, .int .i64 0] 60)) (by simp; omega) hm
  rw [hr] at hc1
  unfold TokAns intT
  dsimp only
  have hl1 := (cut_lenP r t.data.toList).1
  obtain ⟨⟨I, A, ed⟩, eA⟩ : ∃ x, x = Lib.cut r t.data.toList := ⟨_, rfl⟩
  rw [← eA] at hc1 hl1 ⊢
  clear eA
  dsimp only at hc1 hl1 ⊢
  have hc2 : ∀ n, _ := fun n => Try.strings_Cut (⟨I.toArray⟩ : ByteArray) ⟨#[44]⟩ m ((w.alloc (.cells #[.int .i64 0, .int .u64 0, .int .u64 0, .int .u64 0, .int .u64 0, .int .i64 0, .int .i64 0] 60)).drewN n) (by simp [ByteArray.size]; omega) hm
  simp only at hc2
  have hl2 := cut_lenP I [44]
  obtain ⟨⟨L, H, cm⟩, eB⟩ : ∃ x, x = Lib.cut I [44] := ⟨_, rfl⟩
  rw [← eB] at hc2 hl2 ⊢
  clear eB
  dsimp only at hc2 hl2 ⊢
  obtain ⟨IS, eIS⟩ : ∃ x : ByteArray, x = ⟨I.toArray⟩ := ⟨_, rfl⟩
  obtain ⟨AS, eAS⟩ : ∃ x : ByteArray, x = ⟨A.toArray⟩ := ⟨_, rfl⟩
  obtain ⟨LS, eLS⟩ : ∃ x : ByteArray, x = ⟨L.toArray⟩ := ⟨_, rfl⟩
  obtain ⟨HS, eHS⟩ : ∃ x : ByteArray, x = ⟨H.toArray⟩ := ⟨_, rfl⟩
  have hIS : IS.size = I.length := by rw [eIS]; simp [ByteArray.size]
  have hn1 := number_is LS
  have hn2 := number_is HS
  rw [show LS.data.toList = L by rw [eLS]] at hn1
  rw [show HS.data.toList = H by rw [eHS]] at hn2
  have hemp : HS.toList.isEmpty = H.isEmpty := by rw [isEmpty_of, eHS]
  rw [← eIS, ← eAS] at hc1
  rw [← eIS, ← eLS, ← eHS] at hc2
  rw [← hIS]
  have hIS2 : IS.size ≤ 4096 := by omega
  obtain ⟨⟨ln, lb⟩, eln⟩ : ∃ x, x = numP L := ⟨_, rfl⟩
  obtain ⟨⟨hn, hb⟩, ehn⟩ : ∃ x, x = numP H := ⟨_, rfl⟩
  rw [← eln] at hn1 ⊢
  rw [← ehn] at hn2 ⊢
  obtain ⟨z, ez⟩ : ∃ z, z = H.isEmpty := ⟨_, rfl⟩
  rw [← ez] at hemp
  have hzz : (H = []) = (z = true) := by rw [ez]; simp
  simp only [hzz, show t.data.toList.length = t.size by simp]
  obtain ⟨ans, eans⟩ : ∃ x : Tok × Nat, x = if ed = false ∨ lb = false then (Tok.none, 0) else if cm = false then (repT (ln : Int) (ln : Int), f.size + IS.size + t.size) else if z = true then (repT (ln : Int) (-1), f.size + IS.size + t.size) else if hb = false ∨ hn < ln then (Tok.none, 0) else (repT (ln : Int) (hn : Int), f.size + IS.size + t.size) := ⟨_, rfl⟩
  have EANS := Lib.hid eans
  rw [← eans]
  clear eans
  have HC1 := Lib.hid hc1
  have HC2 := Lib.hid hc2
  have HN1 := Lib.hid hn1
  have HN2 := Lib.hid hn2
  have hcmp : decide ((hn : Int) < (ln : Int)) = decide (hn < ln) := by
    by_cases h : hn < ln
    · rw [decide_eq_true h, decide_eq_true (by omega)]
    · rw [decide_eq_false h, decide_eq_false (by omega)]
  have HCMP := Lib.hid hcmp
  have q1 : wrap64 ((f.size : Int) + (IS.size : Int)) = (f.size : Int) + (IS.size : Int) := IntWalk.wrap64_in _ (by omega)
  have q2 : wrap64 ((f.size : Int) + (IS.size : Int) + (t.size : Int)) = (f.size : Int) + (IS.size : Int) + (t.size : Int) := IntWalk.wrap64_in _ (by clear q1; omega)
  clear hr hz hft hm hrl hl1 hl2 eIS eAS eLS eHS hIS hIS2 eln ehn ez hzz hc1 hc2 hn1 hn2 hcmp hM
  go_enter Try.func31, Try.ntmps31
  go_wp2_with fail
  go_at_call 40
  refine HC1.out.mono ?_
  rintro e w0 ⟨rfl, n1, rfl⟩
  go_wp2_with fail
  go_at_call 40
  refine (HC2.out n1).mono ?_
  rintro e w0 ⟨rfl, n2, rfl⟩
  go_wp2_with fail
  go_at_call 41
  refine (HN1.out _).mono ?_
  rintro e w1 ⟨rfl, hb1⟩
  have hb1' : Below (w.alloc (.cells #[.int .i64 0, .int .u64 0, .int .u64 0, .int .u64 0, .int .u64 0, .int .i64 0, .int .i64 0] 60)).heap.size (w.alloc (.cells #[.int .i64 0, .int .u64 0, .int .u64 0, .int .u64 0, .int .u64 0, .int .i64 0, .int .i64 0] 60)) w1 := (below_drewNc (m := n1 + n2) (Below.refl _ _)).trans hb1
  go_wp2_with fail
  go_at_call 41
  refine (HN2.out _).mono ?_
  rintro e w2 ⟨rfl, hb2⟩
  have hb2' := hb1'.trans (hb2.mono hb1'.size)
  have hx : Box7 w2 w.heap.size (.int .i64 0) (.int .u64 0) (.int .u64 0) (.int .u64 0) (.int .u64 0) (.int .i64 0) (.int .i64 0) := box7 hb2' (by simp)
  have HBX := Lib.hid hx
  have HB := Lib.hid ((bA w (.cells #[.int .i64 0, .int .u64 0, .int .u64 0, .int .u64 0, .int .u64 0, .int .i64 0, .int .i64 0] 60)).trans (hb2'.mono (by simp)))
  have HSZ := Lib.hid (show w.heap.size < w2.heap.size from Nat.lt_of_lt_of_le (by simp) hb2'.size)
  clear hb1 hb1' hb2 hb2' HC1 HC2 HN1 HN2
  cases ed with
  | false =>
    obtain ⟨⟨k0, k1, k2, k3, k4, k5, k6⟩, f0, f1, f2, f3, f4, f5, f6⟩ := hx
    have HE := Lib.hid (show ans = (Tok.none, 0) by rw [EANS.out]; exact if_pos (.inl rfl))
    go_wp2_with fail
    refine bodyPost_ret (v := .tuple #[.agg #[.int .i64 0, .int .u64 0, .int .u64 0, .int .u64 0, .int .u64 0, .int .i64 0, .int .i64 0], .int .i64 0]) (by simp [results, Try.results31, go_sem, k0, k1, k2, k3, k4, k5, k6]) rfl ⟨by rw [HE.out]; rfl, ?_⟩
    exact below7 HB.out (Nat.le_refl _) _ _ _ _ _ _ _
  | true =>
    cases lb with
    | false =>
      obtain ⟨⟨k0, k1, k2, k3, k4, k5, k6⟩, f0, f1, f2, f3, f4, f5, f6⟩ := hx
      have HE := Lib.hid (show ans = (Tok.none, 0) by rw [EANS.out]; exact if_pos (.inr rfl))
      go_wp2_with fail
      refine bodyPost_ret (v := .tuple #[.agg #[.int .i64 0, .int .u64 0, .int .u64 0, .int .u64 0, .int .u64 0, .int .i64 0, .int .i64 0], .int .i64 0]) (by simp [results, Try.results31, go_sem, k0, k1, k2, k3, k4, k5, k6]) rfl ⟨by rw [HE.out]; rfl, ?_⟩
      exact below7 HB.out (Nat.le_refl _) _ _ _ _ _ _ _
    | true =>
      cases cm with
      | false =>
        clear hx
        have HR := Lib.hid fun (W : World) => repetition_is (ln : Int) ((ln : Int)) W
        unfold TokOne Tok.v repT noS at HR
        have HE := Lib.hid (show ans = (repT (ln : Int) ((ln : Int)), f.size + IS.size + t.size) by rw [EANS.out]; rw [if_neg (fun h => h.elim (fun h => by cases h) (fun h => by cases h))]; exact if_pos rfl)
        go_wp2_with fail
        go_at_call 30
        refine (HR.out _).mono ?_
        rintro e w3 ⟨rfl, hb3⟩
        have hx := box7k HBX.out hb3 HSZ.out
        obtain ⟨⟨k0, k1, k2, k3, k4, k5, k6⟩, f0, f1, f2, f3, f4, f5, f6⟩ := hx
        have HB3 := Lib.hid (HB.out.trans (hb3.mono HB.out.size))
        clear hb3
        go_wp2_with fail
        refine bodyPost_ret (v := .tuple #[.agg #[.int .i64 7, .int .u64 0, .int .u64 0, .int .u64 0, .int .u64 0, .int .i64 (ln : Int), .int .i64 ((ln : Int))], .int .i64 ((f.size : Int) + (IS.size : Int) + (t.size : Int))]) (by simp [results, Try.results31, go_sem, k0, k1, k2, k3, k4, k5, k6, q1, q2]) rfl ⟨by rw [HE.out]; simp [Tok.v, repT, noS], ?_⟩
        exact below7 HB3.out (Nat.le_refl _) _ _ _ _ _ _ _
      | true =>
        cases z with
        | true =>
          clear hx
          have HR := Lib.hid fun (W : World) => repetition_is (ln : Int) (-1) W
          unfold TokOne Tok.v repT noS at HR
          have HE := Lib.hid (show ans = (repT (ln : Int) (-1), f.size + IS.size + t.size) by rw [EANS.out]; rw [if_neg (fun h => h.elim (fun h => by cases h) (fun h => by cases h)), if_neg (fun h => by cases h)]; exact if_pos rfl)
          go_wp2_with fail
          go_at_call 30
          refine (HR.out _).mono ?_
          rintro e w3 ⟨rfl, hb3⟩
          have hx := box7k HBX.out hb3 HSZ.out
          obtain ⟨⟨k0, k1, k2, k3, k4, k5, k6⟩, f0, f1, f2, f3, f4, f5, f6⟩ := hx
          have HB3 := Lib.hid (HB.out.trans (hb3.mono HB.out.size))
          clear hb3
          go_wp2_with fail
          refine bodyPost_ret (v := .tuple #[.agg #[.int .i64 7, .int .u64 0, .int .u64 0, .int .u64 0, .int .u64 0, .int .i64 (ln : Int), .int .i64 (-1)], .int .i64 ((f.size : Int) + (IS.size : Int) + (t.size : Int))]) (by simp [results, Try.results31, go_sem, k0, k1, k2, k3, k4, k5, k6, q1, q2]) rfl ⟨by rw [HE.out]; simp [Tok.v, repT, noS], ?_⟩
          exact below7 HB3.out (Nat.le_refl _) _ _ _ _ _ _ _
        | false =>
          cases hb with
          | false =>
            obtain ⟨⟨k0, k1, k2, k3, k4, k5, k6⟩, f0, f1, f2, f3, f4, f5, f6⟩ := hx
            have HE := Lib.hid (show ans = (Tok.none, 0) by rw [EANS.out]; rw [if_neg (fun h => h.elim (fun h => by cases h) (fun h => by cases h)), if_neg (fun h => by cases h), if_neg (fun h => by cases h)]; exact if_pos (.inl rfl))
            go_wp2_with fail
            refine bodyPost_ret (v := .tuple #[.agg #[.int .i64 0, .int .u64 0, .int .u64 0, .int .u64 0, .int .u64 0, .int .i64 0, .int .i64 0], .int .i64 0]) (by simp [results, Try.results31, go_sem, k0, k1, k2, k3, k4, k5, k6]) rfl ⟨by rw [HE.out]; rfl, ?_⟩
            exact below7 HB.out (Nat.le_refl _) _ _ _ _ _ _ _
          | true =>
            by_cases hlt : hn < ln
            · have g1 : decide ((hn : Int) < (ln : Int)) = true := by rw [HCMP.out, decide_eq_true hlt]
              have g1n : decide (hn < ln) = true := decide_eq_true hlt
              obtain ⟨⟨k0, k1, k2, k3, k4, k5, k6⟩, f0, f1, f2, f3, f4, f5, f6⟩ := hx
              have HE := Lib.hid (show ans = (Tok.none, 0) by rw [EANS.out]; rw [if_neg (fun h => h.elim (fun h => by cases h) (fun h => by cases h)), if_neg (fun h => by cases h), if_neg (fun h => by cases h)]; exact if_pos (.inr hlt))
              go_wp2_with fail
              refine bodyPost_ret (v := .tuple #[.agg #[.int .i64 0, .int .u64 0, .int .u64 0, .int .u64 0, .int .u64 0, .int .i64 0, .int .i64 0], .int .i64 0]) (by simp [results, Try.results31, go_sem, k0, k1, k2, k3, k4, k5, k6]) rfl ⟨by rw [HE.out]; rfl, ?_⟩
              exact below7 HB.out (Nat.le_refl _) _ _ _ _ _ _ _
            · have g1 : decide ((hn : Int) < (ln : Int)) = false := by rw [HCMP.out, decide_eq_false hlt]
              have g1n : decide (hn < ln) = false := decide_eq_false hlt
              clear hx
              have HR := Lib.hid fun (W : World) => repetition_is (ln : Int) ((hn : Int)) W
              unfold TokOne Tok.v repT noS at HR
              have HE := Lib.hid (show ans = (repT (ln : Int) ((hn : Int)), f.size + IS.size + t.size) by rw [EANS.out]; rw [if_neg (fun h => h.elim (fun h => by cases h) (fun h => by cases h)), if_neg (fun h => by cases h), if_neg (fun h => by cases h)]; exact if_neg (fun h => h.elim (fun h => by cases h) hlt))
              go_wp2_with fail
              go_at_call 30
              refine (HR.out _).mono ?_
              rintro e w3 ⟨rfl, hb3⟩
              have hx := box7k HBX.out hb3 HSZ.out
              obtain ⟨⟨k0, k1, k2, k3, k4, k5, k6⟩, f0, f1, f2, f3, f4, f5, f6⟩ := hx
              have HB3 := Lib.hid (HB.out.trans (hb3.mono HB.out.size))
              clear hb3
              go_wp2_with fail
              refine bodyPost_ret (v := .tuple #[.agg #[.int .i64 7, .int .u64 0, .int .u64 0, .int .u64 0, .int .u64 0, .int .i64 (ln : Int), .int .i64 ((hn : Int))], .int .i64 ((f.size : Int) + (IS.size : Int) + (t.size : Int))]) (by simp [results, Try.results31, go_sem, k0, k1, k2, k3, k4, k5, k6, q1, q2]) rfl ⟨by rw [HE.out]; simp [Tok.v, repT, noS], ?_⟩
              exact below7 HB3.out (Nat.le_refl _) _ _ _ _ _ _ _
end Go.Proofs.Ytbehbbmhkkidfaa

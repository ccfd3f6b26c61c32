/-
  The program's tokens: the token that a text begins with. Conditions: Bracket's answers are told by a function of the text; a text of at most 4096 bytes.
-/
import Derived.Test.YtbehbbmhkkidfaaPmem
import Derived.Test.YtbehbbmhkkidfaaCitemn
namespace Go.Proofs.Ytbehbbmhkkidfaa
open Go.RowKit Go.Deep

/-- A new token's box, whatever was made behind it. -/
theorem box7 {w w1 : World} {n : Nat} {v0 v1 v2 v3 v4 v5 v6 : Value} {t : TypeId} (h : Below n (w.alloc (.cells #[v0, v1, v2, v3, v4, v5, v6] t)) w1) (hn : w.heap.size < n) :
    (w1.cell? ⟨w.heap.size, 0, none⟩ = some v0 ∧ w1.cell? ⟨w.heap.size, 1, none⟩ = some v1 ∧ w1.cell? ⟨w.heap.size, 2, none⟩ = some v2 ∧ w1.cell? ⟨w.heap.size, 3, none⟩ = some v3 ∧ w1.cell? ⟨w.heap.size, 4, none⟩ = some v4 ∧ w1.cell? ⟨w.heap.size, 5, none⟩ = some v5 ∧ w1.cell? ⟨w.heap.size, 6, none⟩ = some v6) ∧
    (w1.frozen? ⟨w.heap.size, 0, none⟩ = false ∧ w1.frozen? ⟨w.heap.size, 1, none⟩ = false ∧ w1.frozen? ⟨w.heap.size, 2, none⟩ = false ∧ w1.frozen? ⟨w.heap.size, 3, none⟩ = false ∧ w1.frozen? ⟨w.heap.size, 4, none⟩ = false ∧ w1.frozen? ⟨w.heap.size, 5, none⟩ = false ∧ w1.frozen? ⟨w.heap.size, 6, none⟩ = false) := by
  refine ⟨⟨?_, ?_, ?_, ?_, ?_, ?_, ?_⟩, ?_, ?_, ?_, ?_, ?_, ?_, ?_⟩
  all_goals first | (rw [h.cell hn]; simp [go_sem]) | (rw [h.frozen hn]; simp [go_sem])
theorem below7 {B : Nat} {w w1 : World} (h : Below B w w1) {b : Nat} (hb : B ≤ b) (v0 v1 v2 v3 v4 v5 v6 : Value) : Below B w (((((((w1.setCell ⟨b, 0, none⟩ v0).setCell ⟨b, 1, none⟩ v1).setCell ⟨b, 2, none⟩ v2).setCell ⟨b, 3, none⟩ v3).setCell ⟨b, 4, none⟩ v4).setCell ⟨b, 5, none⟩ v5).setCell ⟨b, 6, none⟩ v6) :=
  ((((((h.setCell hb _).setCell hb _).setCell hb _).setCell hb _).setCell hb _).setCell hb _).setCell hb _
theorem bA (w : World) (o : Obj) : Below w.heap.size w (w.alloc o) := (Below.refl _ w).alloc (Nat.le_refl _) o
/-- What a function of tokens answers. -/
def TokAns (t : Tok × Nat) (w : World) (e : Ending) (w' : World) : Prop := e = .returned (.tuple #[t.1.v, .int .i64 (t.2 : Int)]) ∧ Below w.heap.size w w'
def TokOne (t : Tok) (w : World) (e : Ending) (w' : World) : Prop := e = .returned t.v ∧ Below w.heap.size w w'

set_option maxRecDepth 100000 in
theorem any_byte (w : World) : Calls Try.prog 27 #[] w (TokOne anyT w) := by
  have H := Lib.hid fun (W : World) => not_is noS OkS.no W
  have h0 := H.out (w.alloc (.cells #[.int .i64 0, .int .u64 0, .int .u64 0, .int .u64 0, .int .u64 0, .int .i64 0, .int .i64 0] 60))
  unfold TokOne anyT Tok.v
  obtain ⟨A, hA⟩ : ∃ A, A = notS noS := ⟨_, rfl⟩
  rw [← hA] at h0 ⊢
  unfold setV noS at h0
  have H0 := Lib.hid h0
  clear H hA h0
  go_enter Try.func27, Try.ntmps27
  go_wp2_with fail
  go_at_call 37
  refine H0.out.mono ?_
  rintro e w1 ⟨rfl, hb1⟩
  obtain ⟨⟨k0, k1, k2, k3, k4, k5, k6⟩, f0, f1, f2, f3, f4, f5, f6⟩ := box7 hb1 (by simp)
  have HB := Lib.hid ((bA w _).trans (hb1.mono (by simp)))
  clear hb1
  go_wp2_with fail
  refine bodyPost_ret (v := .agg #[.int .i64 1, .int .u64 (A 0), .int .u64 (A 1), .int .u64 (A 2), .int .u64 (A 3), .int .i64 0, .int .i64 0]) (by simp [results, Try.results27, go_sem, k0, k1, k2, k3, k4, k5, k6]) rfl ⟨rfl, ?_⟩
  exact below7 HB.out (Nat.le_refl _) _ _ _ _ _ _ _
set_option maxRecDepth 100000 in
theorem itself_is (c : Nat) (hc : c < 256) (w : World) : Calls Try.prog 32 #[.int .u8 (c : Int)] w (TokOne (oneT c) w) := by
  have h0 := with_is noS c c OkS.no hc hc (w.alloc (.cells #[.int .i64 0, .int .u64 0, .int .u64 0, .int .u64 0, .int .u64 0, .int .i64 0, .int .i64 0] 60))
  unfold TokOne oneT Tok.v
  obtain ⟨A, hA⟩ : ∃ A, A = withS noS c c := ⟨_, rfl⟩
  rw [← hA] at h0 ⊢
  unfold setV noS at h0
  have H0 := Lib.hid h0
  clear hA h0
  go_enter Try.func32, Try.ntmps32
  go_wp2_with fail
  go_at_call 42
  refine H0.out.mono ?_
  rintro e w1 ⟨rfl, hb1⟩
  obtain ⟨⟨k0, k1, k2, k3, k4, k5, k6⟩, f0, f1, f2, f3, f4, f5, f6⟩ := box7 hb1 (by simp)
  have HB := Lib.hid ((bA w _).trans (hb1.mono (by simp)))
  clear hb1
  go_wp2_with fail
  refine bodyPost_ret (v := .agg #[.int .i64 1, .int .u64 (A 0), .int .u64 (A 1), .int .u64 (A 2), .int .u64 (A 3), .int .i64 0, .int .i64 0]) (by simp [results, Try.results32, go_sem, k0, k1, k2, k3, k4, k5, k6]) rfl ⟨rfl, ?_⟩
  exact below7 HB.out (Nat.le_refl _) _ _ _ _ _ _ _
set_option maxRecDepth 100000 in
theorem repetition_is (a b : Int) (w : World) : Calls Try.prog 30 #[.int .i64 a, .int .i64 b] w (TokOne (repT a b) w) := by
  unfold TokOne repT Tok.v noS
  go_enter Try.func30, Try.ntmps30
  go_wp2_with fail
  refine bodyPost_ret (v := .agg #[.int .i64 7, .int .u64 0, .int .u64 0, .int .u64 0, .int .u64 0, .int .i64 a, .int .i64 b]) (by simp [results, Try.results30, go_sem]) rfl ⟨rfl, ?_⟩
  exact bA w _

theorem size_cons {s : ByteArray} {c : UInt8} {r : List UInt8} (h : s.data.toList = c :: r) : s.size = r.length + 1 := by rw [size_of h]; rfl
set_option maxRecDepth 100000 in
theorem escaped_is (s t : ByteArray) {c : UInt8} {r : List UInt8} (hl : s.data.toList = c :: r) (w : World) : Calls Try.prog 29 #[.string s, .string t] w (TokAns (escT t.data.toList r) w) := by
  unfold TokAns
  match r with
  | [] =>
    have g : decide ((s.size : Int) < 2) = true := decide_eq_true (by rw [size_cons hl]; simp)
    clear hl
    simp only [escT, Tok.v, Tok.none, noS]
    go_enter Try.func29, Try.ntmps29
    go_wp2_with fail
    refine bodyPost_ret (v := .tuple #[.agg #[.int .i64 0, .int .u64 0, .int .u64 0, .int .u64 0, .int .u64 0, .int .i64 0, .int .i64 0], .int .i64 0]) (by simp [results, Try.results29, go_sem]) rfl ⟨rfl, ?_⟩
    exact bA w _
  | d :: q =>
    have hz := size_cons hl
    have g : decide ((s.size : Int) < 2) = false := decide_eq_false (by rw [hz]; simp only [List.length_cons]; omega)
    have h1 := at_of hl (i := 1) (c := d) rfl
    have hs : 1 < s.size := by rw [hz]; simp
    have hsi : (1 : Int) < (s.size : Int) := by omega
    have e110 := u8_test d 110 110 rfl
    by_cases hd : d = 110
    · have tt : ((d.toNat : Int) == 110) = true := by rw [show (110 : Int) = ((110 : Nat) : Int) from rfl, e110, beq_iff_eq]; exact hd
      have HI := Lib.hid (itself_is 10 (by decide) (w.alloc (.cells #[.int .i64 0, .int .u64 0, .int .u64 0, .int .u64 0, .int .u64 0, .int .i64 0, .int .i64 0] 60)))
      have HE := Lib.hid (show escT t.data.toList (d :: q) = (oneT 10, 2) by simp only [escT]; rw [if_pos hd])
      obtain ⟨T, hT⟩ : ∃ T, T = oneT 10 := ⟨_, rfl⟩
      rw [← hT] at HI HE
      clear hl hz hd e110 hT
      unfold TokOne Tok.v at HI
      go_enter Try.func29, Try.ntmps29
      go_wp2_with fail
      go_at_call 32
      refine HI.out.mono ?_
      rintro e w1 ⟨rfl, hb1⟩
      obtain ⟨⟨k0, k1, k2, k3, k4, k5, k6⟩, f0, f1, f2, f3, f4, f5, f6⟩ := box7 hb1 (by simp)
      have HB := Lib.hid ((bA w _).trans (hb1.mono (by simp)))
      clear hb1
      go_wp2_with fail
      refine bodyPost_ret (v := .tuple #[T.v, .int .i64 2]) (by simp [results, Try.results29, go_sem, Tok.v, k0, k1, k2, k3, k4, k5, k6]) rfl ⟨by rw [HE.out]; rfl, ?_⟩
      exact below7 HB.out (Nat.le_refl _) _ _ _ _ _ _ _
    · have tt : ((d.toNat : Int) == 110) = false := by rw [show (110 : Int) = ((110 : Nat) : Int) from rfl, e110, beq_eq_false_iff_ne]; exact hd
      have HX := Lib.hid (Try.strings_IndexByte t (d.toNat : Int))
      obtain ⟨x, hx⟩ : ∃ x, x = Lib.indexByte t.data.toList d := ⟨_, rfl⟩
      rw [show ((d.toNat : Int)).toNat.toUInt8 = d by simp] at HX
      rw [← hx] at HX
      by_cases hneg : x < 0
      · have gx : decide (x < 0) = true := decide_eq_true hneg
        have HE := Lib.hid (show escT t.data.toList (d :: q) = (Tok.none, 0) by simp only [escT]; rw [if_neg hd, ← hx, if_pos hneg])
        clear hl hz hd e110 hx hneg
        go_enter Try.func29, Try.ntmps29
        go_wp2_with fail
        go_at_call 39
        refine (HX.out _).mono ?_
        rintro e w1 ⟨rfl, rfl⟩
        go_wp2_with fail
        refine bodyPost_ret (v := .tuple #[Tok.none.v, .int .i64 0]) (by simp [results, Try.results29, go_sem, Tok.v, Tok.none, noS]) rfl ⟨by rw [HE.out]; rfl, ?_⟩
        exact bA w _
      · have gx : decide (x < 0) = false := decide_eq_false hneg
        have HI := Lib.hid (itself_is d.toNat (UInt8.toNat_lt _) (w.alloc (.cells #[.int .i64 0, .int .u64 0, .int .u64 0, .int .u64 0, .int .u64 0, .int .i64 0, .int .i64 0] 60)))
        have HE := Lib.hid (show escT t.data.toList (d :: q) = (oneT d.toNat, 2) by simp only [escT]; rw [if_neg hd, ← hx, if_neg hneg])
        obtain ⟨T, hT⟩ : ∃ T, T = oneT d.toNat := ⟨_, rfl⟩
        rw [← hT] at HI HE
        clear hl hz hd e110 hT hx hneg
        unfold TokOne Tok.v at HI
        go_enter Try.func29, Try.ntmps29
        go_wp2_with fail
        go_at_call 39
        refine (HX.out _).mono ?_
        rintro e w0 ⟨rfl, rfl⟩
        go_wp2_with fail
        go_at_call 32
        refine HI.out.mono ?_
        rintro e w1 ⟨rfl, hb1⟩
        obtain ⟨⟨k0, k1, k2, k3, k4, k5, k6⟩, f0, f1, f2, f3, f4, f5, f6⟩ := box7 hb1 (by simp)
        have HB := Lib.hid ((bA w _).trans (hb1.mono (by simp)))
        clear hb1
        go_wp2_with fail
        refine bodyPost_ret (v := .tuple #[T.v, .int .i64 2]) (by simp [results, Try.results29, go_sem, Tok.v, k0, k1, k2, k3, k4, k5, k6]) rfl ⟨by rw [HE.out]; rfl, ?_⟩
        exact below7 HB.out (Nat.le_refl _) _ _ _ _ _ _ _

end Go.Proofs.Ytbehbbmhkkidfaa

/-
  The parser's piece, its group's answer given. Conditions: at most 4096 tokens and groups.
-/
import Derived.Test.YtbehbbmhkkidfaaPpars
namespace Go.Proofs.Ytbehbbmhkkidfaa
open Go.RowKit Go.Deep

/-- What a function of the parser answers. -/
def PAns (pb : Nat) (x : Option (PN × List Tok × Nat)) (w : World) (e : Ending) (w' : World) : Prop := match x with
  | none => e = .returned (.tuple #[.agg #[.int .i64 0, .int .u64 0, .int .u64 0, .int .u64 0, .int .u64 0, .int .i64 0, .int .i64 0, .int .i64 0, .slice none 0 0], .bool false]) ∧ Turned (· = pb) w w'
  | some (n, l1, g1) => ∃ y : NV, e = .returned (.tuple #[y.v, .bool true]) ∧ IsP (· < w.heap.size) w' n y ∧ ParsAt w' pb l1 g1 ∧ Turned (· = pb) w w'
theorem PAns.bad {pb : Nat} {x : Option (PN × List Tok × Nat)} {w w' : World} (hx : x = none) (ht : Turned (· = pb) w w') : PAns pb x w (.returned (.tuple #[.agg #[.int .i64 0, .int .u64 0, .int .u64 0, .int .u64 0, .int .u64 0, .int .i64 0, .int .i64 0, .int .i64 0, .slice none 0 0], .bool false])) w' := by
  subst hx
  exact ⟨rfl, ht⟩
theorem PAns.good {pb : Nat} {x : Option (PN × List Tok × Nat)} {w w' : World} {n : PN} {l1 : List Tok} {g1 : Nat} (hx : x = some (n, l1, g1)) (y : NV) (hy : IsP (· < w.heap.size) w' n y) (hp : ParsAt w' pb l1 g1) (ht : Turned (· = pb) w w') : PAns pb x w (.returned (.tuple #[y.v, .bool true])) w' := by
  subst hx
  exact ⟨y, rfl, hy, hp, ht⟩
/-- The result's box is written. -/
theorem out9 {w w2 : World} {pb : Nat} (T : Turned (· = pb) w w2) (v0 v1 v2 v3 v4 v5 v6 v7 v8 : Value) : Turned (· = pb) w (((((((((w2.setCell ⟨w.heap.size, 0, none⟩ v0).setCell ⟨w.heap.size, 1, none⟩ v1).setCell ⟨w.heap.size, 2, none⟩ v2).setCell ⟨w.heap.size, 3, none⟩ v3).setCell ⟨w.heap.size, 4, none⟩ v4).setCell ⟨w.heap.size, 5, none⟩ v5).setCell ⟨w.heap.size, 6, none⟩ v6).setCell ⟨w.heap.size, 7, none⟩ v7).setCell ⟨w.heap.size, 8, none⟩ v8) ∧ Turned (· = w.heap.size) w2 (((((((((w2.setCell ⟨w.heap.size, 0, none⟩ v0).setCell ⟨w.heap.size, 1, none⟩ v1).setCell ⟨w.heap.size, 2, none⟩ v2).setCell ⟨w.heap.size, 3, none⟩ v3).setCell ⟨w.heap.size, 4, none⟩ v4).setCell ⟨w.heap.size, 5, none⟩ v5).setCell ⟨w.heap.size, 6, none⟩ v6).setCell ⟨w.heap.size, 7, none⟩ v7).setCell ⟨w.heap.size, 8, none⟩ v8) := by
  have h2 := (Turned.refl (· = w.heap.size) w2).puts9 (k := w.heap.size) rfl v0 v1 v2 v3 v4 v5 v6 v7 v8
  exact ⟨T.trans h2 (fun i hi h => absurd h (Nat.ne_of_lt hi)), h2⟩
theorem RawOff.fresh {S : Nat → Prop} {w : World} {A : Option Addr} {vs : List Value} (h : RawOff S w A vs) : RawOff (fun k => S k ∨ w.heap.size ≤ k) w A vs := by
  match vs with
  | [] => exact .nil _ _ _
  | v :: r =>
    rcases h with h | ⟨g, o, e, hn, hr⟩
    · cases h
    · refine .inr ⟨g, o, e, fun h => ?_, hr⟩
      have := World.block_lt_of_cell? w _ (hr 0 v rfl)
      rcases h with h | h
      · exact hn h
      · exact Nat.lt_irrefl _ (Nat.lt_of_lt_of_le this h)
theorem IsP.fresh {S : Nat → Prop} {w : World} {t : PN} {x : NV} (h : IsP S w t x) : IsP (fun k => S k ∨ w.heap.size ≤ k) w t x := by
  induction h with
  | mk xs hl hc hr _ ih => exact .mk xs hl hc hr.fresh ih
theorem IsP.turned_off {S T : Nat → Prop} {w w' : World} {t : PN} {x : NV} (h : IsP S w t x) (ht : Turned T w w') (hT : ∀ k, k < w.heap.size → T k → S k) : IsP S w' t x := h.turned (ht.wider hT)
abbrev PtrTo (pb : Nat) : Array Value := #[.pointer (some ⟨pb, 0, none⟩)]
def GroupOk (f : Nat) : Prop := ∀ (w : World) (pb : Nat) (ts : List Tok) (g : Nat), ParsAt w pb ts g → 4 * ts.length + 5 ≤ f → g + ts.length + 1 ≤ 4096 → Calls Try.prog 36 (PtrTo pb) w (PAns pb (groupP f ts g) w)
def PieceOk (f : Nat) : Prop := ∀ (w : World) (pb : Nat) (ts : List Tok) (g : Nat), ParsAt w pb ts g → 4 * ts.length + 2 ≤ f → g + ts.length ≤ 4096 → Calls Try.prog 26 (PtrTo pb) w (PAns pb (pieceP f ts g) w)
set_option maxRecDepth 100000 in
theorem piece_nil {w : World} {pb g : Nat} (f : Nat) (h : ParsAt w pb [] g) : Calls Try.prog 26 (PtrTo pb) w (PAns pb (pieceP (f + 1) [] g) w) := by
  have hl := h.lt
  have HP := Lib.hid h
  unfold PtrTo
  clear h
  go_enter Try.func26, Try.ntmps26
  go_wp2_with fail
  go_at_call 22
  refine (take_is (HP.out.below (bA w _))).mono ?_
  rintro e w2 ⟨rfl, hP2, hT2⟩
  obtain ⟨⟨c0, c1, c2, c3, c4, c5, c6, c7, c8⟩, f0, f1, f2, f3, f4, f5, f6, f7, f8⟩ := box9 (hT2.obj (new_obj w _) (by omega))
  have l0 : w.heap.size < w2.heap.size := by have := hT2.size; rw [World.size_alloc] at this; omega
  have T2 := (Turned.of_below (S := (· = pb)) (bA w (.cells #[.int .i64 0, .int .u64 0, .int .u64 0, .int .u64 0, .int .u64 0, .int .i64 0, .int .i64 0, .int .i64 0, .slice none 0 0] 30))).trans hT2 (fun _ _ h => h)
  have HT2 := Lib.hid T2
  rw [show (headT []).v = .agg #[.int .i64 0, .int .u64 0, .int .u64 0, .int .u64 0, .int .u64 0, .int .i64 0, .int .i64 0] from rfl]
  clear T2 hT2 hP2
  go_wp2_with fail
  refine bodyPost_ret (v := .tuple #[.agg #[.int .i64 0, .int .u64 0, .int .u64 0, .int .u64 0, .int .u64 0, .int .i64 0, .int .i64 0, .int .i64 0, .slice none 0 0], .bool false]) (by simp [results, Try.results26, go_sem, c0, c1, c2, c3, c4, c5, c6, c7, c8, l0]) rfl ?_
  refine PAns.bad (by simp only [pieceP]) ?_
  obtain ⟨A1, A2⟩ := out9 HT2.out (.int .i64 0) (.int .u64 0) (.int .u64 0) (.int .u64 0) (.int .u64 0) (.int .i64 0) (.int .i64 0) (.int .i64 0) (.slice none 0 0)
  exact A1.then_below ((bA _ _).mono A1.size)
set_option maxRecDepth 100000 in
theorem piece_two {w : World} {pb g : Nat} {q lo hi : Int} {TS : Nat → Nat} {r : List Tok} (f : Nat) (hq : q = 2) (h : ParsAt w pb (⟨q, TS, lo, hi⟩ :: r) g) : Calls Try.prog 26 (PtrTo pb) w (PAns pb (pieceP (f + 1) (⟨q, TS, lo, hi⟩ :: r) g) w) := by
  have hl := h.lt
  have HP := Lib.hid h
  have HR := Lib.hid (show pieceP (f + 1) (⟨q, TS, lo, hi⟩ :: r) g = some (.mk 6 noS 0 0 0 [], r, g) by subst hq; simp [pieceP])
  subst hq
  unfold PtrTo
  clear h
  go_enter Try.func26, Try.ntmps26
  go_wp2_with fail
  go_at_call 22
  refine (take_is (HP.out.below (bA w _))).mono ?_
  rintro e w2 ⟨rfl, hP2, hT2⟩
  obtain ⟨⟨c0, c1, c2, c3, c4, c5, c6, c7, c8⟩, f0, f1, f2, f3, f4, f5, f6, f7, f8⟩ := box9 (hT2.obj (new_obj w _) (by omega))
  have l0 : w.heap.size < w2.heap.size := by have := hT2.size; rw [World.size_alloc] at this; omega
  have T2 := (Turned.of_below (S := (· = pb)) (bA w (.cells #[.int .i64 0, .int .u64 0, .int .u64 0, .int .u64 0, .int .u64 0, .int .i64 0, .int .i64 0, .int .i64 0, .slice none 0 0] 30))).trans hT2 (fun _ _ h => h)
  have HT2 := Lib.hid (And.intro T2 hP2)
  rw [show (headT (⟨2, TS, lo, hi⟩ :: r)).v = .agg #[.int .i64 2, .int .u64 (TS 0), .int .u64 (TS 1), .int .u64 (TS 2), .int .u64 (TS 3), .int .i64 lo, .int .i64 hi] from rfl]
  clear T2 hT2 hP2
  go_wp2_with fail
  refine bodyPost_ret (v := .tuple #[.agg #[.int .i64 6, .int .u64 0, .int .u64 0, .int .u64 0, .int .u64 0, .int .i64 0, .int .i64 0, .int .i64 0, .slice none 0 0], .bool true]) (by simp [results, Try.results26, go_sem, c0, c1, c2, c3, c4, c5, c6, c7, c8, l0]) rfl ?_
  obtain ⟨A1, A2⟩ := out9 HT2.out.1 (.int .i64 6) (.int .u64 0) (.int .u64 0) (.int .u64 0) (.int .u64 0) (.int .i64 0) (.int .i64 0) (.int .i64 0) (.slice none 0 0)
  refine PAns.good HR.out ⟨6, noS, 0, 0, 0, none, 0, 0⟩ (IsP.leaf _ _ _ _ _ _ _) ?_ (A1.then_below ((bA _ _).mono (by have := A1.size; exact this)))
  exact (HT2.out.2.turned A2 (fun k h => by rw [h]; exact hl)).below (bA _ _)
set_option maxRecDepth 100000 in
theorem piece_three {w : World} {pb g : Nat} {q lo hi : Int} {TS : Nat → Nat} {r : List Tok} (f : Nat) (hq : q = 3) (h : ParsAt w pb (⟨q, TS, lo, hi⟩ :: r) g) : Calls Try.prog 26 (PtrTo pb) w (PAns pb (pieceP (f + 1) (⟨q, TS, lo, hi⟩ :: r) g) w) := by
  have hl := h.lt
  have HP := Lib.hid h
  have HR := Lib.hid (show pieceP (f + 1) (⟨q, TS, lo, hi⟩ :: r) g = some (.mk 7 noS 0 0 0 [], r, g) by subst hq; simp [pieceP])
  subst hq
  unfold PtrTo
  clear h
  go_enter Try.func26, Try.ntmps26
  go_wp2_with fail
  go_at_call 22
  refine (take_is (HP.out.below (bA w _))).mono ?_
  rintro e w2 ⟨rfl, hP2, hT2⟩
  obtain ⟨⟨c0, c1, c2, c3, c4, c5, c6, c7, c8⟩, f0, f1, f2, f3, f4, f5, f6, f7, f8⟩ := box9 (hT2.obj (new_obj w _) (by omega))
  have l0 : w.heap.size < w2.heap.size := by have := hT2.size; rw [World.size_alloc] at this; omega
  have T2 := (Turned.of_below (S := (· = pb)) (bA w (.cells #[.int .i64 0, .int .u64 0, .int .u64 0, .int .u64 0, .int .u64 0, .int .i64 0, .int .i64 0, .int .i64 0, .slice none 0 0] 30))).trans hT2 (fun _ _ h => h)
  have HT2 := Lib.hid (And.intro T2 hP2)
  rw [show (headT (⟨3, TS, lo, hi⟩ :: r)).v = .agg #[.int .i64 3, .int .u64 (TS 0), .int .u64 (TS 1), .int .u64 (TS 2), .int .u64 (TS 3), .int .i64 lo, .int .i64 hi] from rfl]
  clear T2 hT2 hP2
  go_wp2_with fail
  refine bodyPost_ret (v := .tuple #[.agg #[.int .i64 7, .int .u64 0, .int .u64 0, .int .u64 0, .int .u64 0, .int .i64 0, .int .i64 0, .int .i64 0, .slice none 0 0], .bool true]) (by simp [results, Try.results26, go_sem, c0, c1, c2, c3, c4, c5, c6, c7, c8, l0]) rfl ?_
  obtain ⟨A1, A2⟩ := out9 HT2.out.1 (.int .i64 7) (.int .u64 0) (.int .u64 0) (.int .u64 0) (.int .u64 0) (.int .i64 0) (.int .i64 0) (.int .i64 0) (.slice none 0 0)
  refine PAns.good HR.out ⟨7, noS, 0, 0, 0, none, 0, 0⟩ (IsP.leaf _ _ _ _ _ _ _) ?_ (A1.then_below ((bA _ _).mono (by have := A1.size; exact this)))
  exact (HT2.out.2.turned A2 (fun k h => by rw [h]; exact hl)).below (bA _ _)
set_option maxRecDepth 100000 in
theorem piece_else {w : World} {pb g : Nat} {q lo hi : Int} {TS : Nat → Nat} {r : List Tok} (f : Nat) (h1 : q ≠ 1) (h2 : q ≠ 2) (h3 : q ≠ 3) (h4 : q ≠ 4) (h : ParsAt w pb (⟨q, TS, lo, hi⟩ :: r) g) : Calls Try.prog 26 (PtrTo pb) w (PAns pb (pieceP (f + 1) (⟨q, TS, lo, hi⟩ :: r) g) w) := by
  have hl := h.lt
  have HP := Lib.hid h
  have HR := Lib.hid (show pieceP (f + 1) (⟨q, TS, lo, hi⟩ :: r) g = none by simp [pieceP, h1, h2, h3, h4])
  have t1 : (q == 1) = false := by rw [beq_eq_false_iff_ne]; exact h1
  have t2 : (q == 2) = false := by rw [beq_eq_false_iff_ne]; exact h2
  have t3 : (q == 3) = false := by rw [beq_eq_false_iff_ne]; exact h3
  have t4 : (q == 4) = false := by rw [beq_eq_false_iff_ne]; exact h4
  clear h1 h2 h3 h4
  unfold PtrTo
  clear h
  go_enter Try.func26, Try.ntmps26
  go_wp2_with fail
  go_at_call 22
  refine (take_is (HP.out.below (bA w _))).mono ?_
  rintro e w2 ⟨rfl, hP2, hT2⟩
  obtain ⟨⟨c0, c1, c2, c3, c4, c5, c6, c7, c8⟩, f0, f1, f2, f3, f4, f5, f6, f7, f8⟩ := box9 (hT2.obj (new_obj w _) (by omega))
  have l0 : w.heap.size < w2.heap.size := by have := hT2.size; rw [World.size_alloc] at this; omega
  have T2 := (Turned.of_below (S := (· = pb)) (bA w (.cells #[.int .i64 0, .int .u64 0, .int .u64 0, .int .u64 0, .int .u64 0, .int .i64 0, .int .i64 0, .int .i64 0, .slice none 0 0] 30))).trans hT2 (fun _ _ h => h)
  have HT2 := Lib.hid (And.intro T2 hP2)
  rw [show (headT (⟨q, TS, lo, hi⟩ :: r)).v = .agg #[.int .i64 q, .int .u64 (TS 0), .int .u64 (TS 1), .int .u64 (TS 2), .int .u64 (TS 3), .int .i64 lo, .int .i64 hi] from rfl]
  clear T2 hT2 hP2
  go_wp2_with fail
  refine bodyPost_ret (v := .tuple #[.agg #[.int .i64 0, .int .u64 0, .int .u64 0, .int .u64 0, .int .u64 0, .int .i64 0, .int .i64 0, .int .i64 0, .slice none 0 0], .bool false]) (by simp [results, Try.results26, go_sem, c0, c1, c2, c3, c4, c5, c6, c7, c8, l0]) rfl ?_
  refine PAns.bad HR.out ?_
  obtain ⟨A1, A2⟩ := out9 HT2.out.1 (.int .i64 0) (.int .u64 0) (.int .u64 0) (.int .u64 0) (.int .u64 0) (.int .i64 0) (.int .i64 0) (.int .i64 0) (.slice none 0 0)
  exact A1.then_below ((bA _ _).mono A1.size)
set_option maxRecDepth 100000 in
theorem piece_one {w : World} {pb g : Nat} {q lo hi : Int} {TS : Nat → Nat} {r : List Tok} (f : Nat) (hq : q = 1) (h : ParsAt w pb (⟨q, TS, lo, hi⟩ :: r) g) : Calls Try.prog 26 (PtrTo pb) w (PAns pb (pieceP (f + 1) (⟨q, TS, lo, hi⟩ :: r) g) w) := by
  have hl := h.lt
  have HP := Lib.hid h
  have HR := Lib.hid (show pieceP (f + 1) (⟨q, TS, lo, hi⟩ :: r) g = some ((repP (.mk 1 TS 0 0 0 []) r).1, (repP (.mk 1 TS 0 0 0 []) r).2, g) by subst hq; simp [pieceP])
  subst hq
  unfold PtrTo
  clear h
  go_enter Try.func26, Try.ntmps26
  go_wp2_with fail
  go_at_call 22
  refine (take_is (HP.out.below (bA w _))).mono ?_
  rintro e w2 ⟨rfl, hP2, hT2⟩
  obtain ⟨⟨c0, c1, c2, c3, c4, c5, c6, c7, c8⟩, f0, f1, f2, f3, f4, f5, f6, f7, f8⟩ := box9 (hT2.obj (new_obj w _) (by omega))
  have l0 : w.heap.size < w2.heap.size := by have := hT2.size; rw [World.size_alloc] at this; omega
  have T2 := (Turned.of_below (S := (· = pb)) (bA w (.cells #[.int .i64 0, .int .u64 0, .int .u64 0, .int .u64 0, .int .u64 0, .int .i64 0, .int .i64 0, .int .i64 0, .slice none 0 0] 30))).trans hT2 (fun _ _ h => h)
  have HT2 := Lib.hid (And.intro T2 hP2)
  rw [show (headT (⟨1, TS, lo, hi⟩ :: r)).v = .agg #[.int .i64 1, .int .u64 (TS 0), .int .u64 (TS 1), .int .u64 (TS 2), .int .u64 (TS 3), .int .i64 lo, .int .i64 hi] from rfl]
  have HO := Lib.hid (hT2.obj (new_obj w _) (by omega))
  clear T2 hT2 hP2 c0 c1 c2 c3 c4 c5 c6 c7 c8 f0 f1 f2 f3 f4 f5 f6 f7 f8
  go_wp2_with fail
  go_at_call 35
  refine (repeated_is (S := (· < w.heap.size + 1)) (y := ⟨1, TS, 0, 0, 0, none, 0, 0⟩) (t := .mk 1 TS 0 0 0 []) (by omega) (fun k hk => by have : k < w.heap.size + 1 := hk; rw [World.size_alloc]; omega) (IsP.leaf _ _ _ _ _ _ _) (HT2.out.2.below (bA _ _))).mono ?_
  rintro e w4 ⟨z, rfl, hz, hP4, hT4⟩
  rw [NV.v_eq]
  obtain ⟨⟨c0, c1, c2, c3, c4, c5, c6, c7, c8⟩, f0, f1, f2, f3, f4, f5, f6, f7, f8⟩ := box9 (hT4.obj (old_obj HO.out _) (by omega))
  have l4 : w.heap.size < w4.heap.size := by have := hT4.size; rw [World.size_alloc] at this; omega
  have HT4 := Lib.hid (And.intro ((HT2.out.1.trans (Turned.of_below (bA w2 _)) (fun _ _ h => h)).trans hT4 (fun _ _ h => h)) (And.intro hz hP4))
  clear hz hP4 hT4
  go_wp2_with fail
  refine bodyPost_ret (v := .tuple #[.agg #[.int .i64 z.kind, .int .u64 (z.set 0), .int .u64 (z.set 1), .int .u64 (z.set 2), .int .u64 (z.set 3), .int .i64 z.lo, .int .i64 z.hi, .int .i64 z.num, .slice z.A z.n z.c], .bool true]) (by simp [results, Try.results26, go_sem, c0, c1, c2, c3, c4, c5, c6, c7, c8]) rfl ?_
  obtain ⟨A1, A2⟩ := out9 HT4.out.1 (.int .i64 z.kind) (.int .u64 (z.set 0)) (.int .u64 (z.set 1)) (.int .u64 (z.set 2)) (.int .u64 (z.set 3)) (.int .i64 z.lo) (.int .i64 z.hi) (.int .i64 z.num) (.slice z.A z.n z.c)
  exact PAns.good HR.out z ((HT4.out.2.1.turned_off A2 (fun k _ h => by show k < w.heap.size + 1; omega)).weaken (fun k h => by show k < w.heap.size + 1; omega)) (HT4.out.2.2.turned A2 (fun k h => by rw [h]; exact hl)) A1
set_option maxRecDepth 100000 in
theorem piece_four {w : World} {pb g : Nat} {q lo hi : Int} {TS : Nat → Nat} {r : List Tok} (f : Nat) (hg : GroupOk f) (hf : 4 * r.length + 5 ≤ f) (hb : g + r.length + 1 ≤ 4096) (hq : q = 4) (h : ParsAt w pb (⟨q, TS, lo, hi⟩ :: r) g) : Calls Try.prog 26 (PtrTo pb) w (PAns pb (pieceP (f + 1) (⟨q, TS, lo, hi⟩ :: r) g) w) := by
  have hl := h.lt
  have HP := Lib.hid h
  have HG := Lib.hid hg
  have HF := Lib.hid (And.intro hf hb)
  have HR := Lib.hid (show (groupP f r g = none → pieceP (f + 1) (⟨q, TS, lo, hi⟩ :: r) g = none) ∧ ∀ n l1 g1, groupP f r g = some (n, l1, g1) → pieceP (f + 1) (⟨q, TS, lo, hi⟩ :: r) g = some ((repP n l1).1, (repP n l1).2, g1) by
    subst hq
    exact ⟨fun h => by simp [pieceP, h], fun n l1 g1 h => by simp [pieceP, h]⟩)
  subst hq
  clear hg hf hb
  unfold PtrTo
  clear h
  go_enter Try.func26, Try.ntmps26
  go_wp2_with fail
  go_at_call 22
  refine (take_is (HP.out.below (bA w _))).mono ?_
  rintro e w2 ⟨rfl, hP2, hT2⟩
  obtain ⟨⟨c0, c1, c2, c3, c4, c5, c6, c7, c8⟩, f0, f1, f2, f3, f4, f5, f6, f7, f8⟩ := box9 (hT2.obj (new_obj w _) (by omega))
  have l0 : w.heap.size < w2.heap.size := by have := hT2.size; rw [World.size_alloc] at this; omega
  have T2 := (Turned.of_below (S := (· = pb)) (bA w (.cells #[.int .i64 0, .int .u64 0, .int .u64 0, .int .u64 0, .int .u64 0, .int .i64 0, .int .i64 0, .int .i64 0, .slice none 0 0] 30))).trans hT2 (fun _ _ h => h)
  have HT2 := Lib.hid (And.intro T2 hP2)
  rw [show (headT (⟨4, TS, lo, hi⟩ :: r)).v = .agg #[.int .i64 4, .int .u64 (TS 0), .int .u64 (TS 1), .int .u64 (TS 2), .int .u64 (TS 3), .int .i64 lo, .int .i64 hi] from rfl]
  have HO := Lib.hid (hT2.obj (new_obj w _) (by omega))
  clear T2 hT2 hP2 c0 c1 c2 c3 c4 c5 c6 c7 c8 f0 f1 f2 f3 f4 f5 f6 f7 f8
  go_wp2_with fail
  go_at_call 36
  refine (HG.out _ pb r g (HT2.out.2.below (bA _ _)) HF.out.1 HF.out.2).mono ?_
  intro e w4 hans
  cases hx : groupP f r g with
  | none =>
    rw [hx] at hans
    obtain ⟨rfl, hT4⟩ := hans
    obtain ⟨⟨c0, c1, c2, c3, c4, c5, c6, c7, c8⟩, f0, f1, f2, f3, f4, f5, f6, f7, f8⟩ := box9 (hT4.obj (old_obj HO.out _) (by omega))
    have l4 : w.heap.size < w4.heap.size := by have := hT4.size; rw [World.size_alloc] at this; omega
    have HT4 := Lib.hid ((HT2.out.1.trans (Turned.of_below (bA w2 _)) (fun _ _ h => h)).trans hT4 (fun _ _ h => h))
    clear hT4
    go_wp2_with fail
    refine bodyPost_ret (v := .tuple #[.agg #[.int .i64 0, .int .u64 0, .int .u64 0, .int .u64 0, .int .u64 0, .int .i64 0, .int .i64 0, .int .i64 0, .slice none 0 0], .bool false]) (by simp [results, Try.results26, go_sem, c0, c1, c2, c3, c4, c5, c6, c7, c8, l4]) rfl ?_
    refine PAns.bad (HR.out.1 hx) ?_
    obtain ⟨A1, A2⟩ := out9 HT4.out (.int .i64 0) (.int .u64 0) (.int .u64 0) (.int .u64 0) (.int .u64 0) (.int .i64 0) (.int .i64 0) (.int .i64 0) (.slice none 0 0)
    exact A1.then_below ((bA _ _).mono A1.size)
  | some x =>
    obtain ⟨n, l1, g1⟩ := x
    rw [hx] at hans
    obtain ⟨y, rfl, hy, hP4, hT4⟩ := hans
    have HO4 := Lib.hid (hT4.obj (old_obj HO.out _) (by omega))
    have l4 : w.heap.size < w4.heap.size := by have := hT4.size; rw [World.size_alloc] at this; omega
    have HT4 := Lib.hid (And.intro ((HT2.out.1.trans (Turned.of_below (bA w2 _)) (fun _ _ h => h)).trans hT4 (fun _ _ h => h)) (And.intro hy hP4))
    clear hT4 hy hP4
    rw [NV.v_eq]
    go_wp2_with fail
    go_at_call 35
    refine (repeated_is (S := (· < w.heap.size + 1)) (y := y) (t := n) (by omega) (fun k hk => by have : k < w.heap.size + 1 := hk; rw [World.size_alloc]; omega) ((HT4.out.2.1.weaken (fun k h => by rw [World.size_alloc]; have : k < w.heap.size + 1 := h; omega)).stays (bA _ _)) (HT4.out.2.2.below (bA _ _))).mono ?_
    rintro e w5 ⟨z, rfl, hz, hP5, hT5⟩
    rw [NV.v_eq]
    obtain ⟨⟨c0, c1, c2, c3, c4, c5, c6, c7, c8⟩, f0, f1, f2, f3, f4, f5, f6, f7, f8⟩ := box9 (hT5.obj (old_obj HO4.out _) (by omega))
    have l5 : w.heap.size < w5.heap.size := by have := hT5.size; rw [World.size_alloc] at this; omega
    have HT5 := Lib.hid (And.intro ((HT4.out.1.trans (Turned.of_below (bA w4 _)) (fun _ _ h => h)).trans hT5 (fun _ _ h => h)) (And.intro hz hP5))
    clear hz hP5 hT5
    go_wp2_with fail
    refine bodyPost_ret (v := .tuple #[.agg #[.int .i64 z.kind, .int .u64 (z.set 0), .int .u64 (z.set 1), .int .u64 (z.set 2), .int .u64 (z.set 3), .int .i64 z.lo, .int .i64 z.hi, .int .i64 z.num, .slice z.A z.n z.c], .bool true]) (by simp [results, Try.results26, go_sem, c0, c1, c2, c3, c4, c5, c6, c7, c8]) rfl ?_
    obtain ⟨A1, A2⟩ := out9 HT5.out.1 (.int .i64 z.kind) (.int .u64 (z.set 0)) (.int .u64 (z.set 1)) (.int .u64 (z.set 2)) (.int .u64 (z.set 3)) (.int .i64 z.lo) (.int .i64 z.hi) (.int .i64 z.num) (.slice z.A z.n z.c)
    exact PAns.good (HR.out.2 n l1 g1 hx) z ((HT5.out.2.1.turned_off A2 (fun k _ h => by show k < w.heap.size + 1; omega)).weaken (fun k h => by show k < w.heap.size + 1; omega)) (HT5.out.2.2.turned A2 (fun k h => by rw [h]; exact hl)) A1
theorem piece_of {f : Nat} (hg : GroupOk f) : PieceOk (f + 1) := by
  intro w pb ts g h hf hb
  match ts with
  | [] => exact piece_nil f h
  | ⟨q, TS, lo, hi⟩ :: r =>
    simp only [List.length_cons] at hf hb
    by_cases h1 : q = 1
    · exact piece_one f h1 h
    by_cases h2 : q = 2
    · exact piece_two f h2 h
    by_cases h3 : q = 3
    · exact piece_three f h3 h
    by_cases h4 : q = 4
    · exact piece_four f hg (by omega) (by omega) h4 h
    exact piece_else f h1 h2 h3 h4 h
end Go.Proofs.Ytbehbbmhkkidfaa

import Derived.Test.YtncbmdbfdjhkeaaK23
import Derived.Test.YtncbmdbfdjhkeaaK20
import Derived.Test.YtncbmdbfdjhkeaaK21
/-
  The parser's piece, its group's answer given. Conditions: at most 4096 tokens and groups.
-/
namespace Go.Proofs.Ytncbmdbfdjhkeaa
open Go.RowKit Go.Deep
def PAns (pb : Nat) (x : Option (PN × List Tok × Nat)) (w : World) (e : Ending) (w' : World) : Prop := match x with
  | none => e = .returned (.tuple #[.agg #[.int .i64 0, .int .u64 0, .int .u64 0, .int .u64 0, .int .u64 0, .int .i64 0, .int .i64 0, .int .i64 0, .slice none 0 0], .bool false]) ∧ Turned (· = pb) w w'
  | some (n, l1, g1) => ∃ y : NV, e = .returned (.tuple #[y.v, .bool true]) ∧ IsP (· < w.heap.size) w' n y ∧ ParsAt w' pb l1 g1 ∧ Turned (· = pb) w w'
theorem PAns.bad {pb : Nat} {x : Option (PN × List Tok × Nat)} {w w' : World} (hx : x = none) (ht : Turned (· = pb) w w') : PAns pb x w (.returned (.tuple #[.agg #[.int .i64 0, .int .u64 0, .int .u64 0, .int .u64 0, .int .u64 0, .int .i64 0, .int .i64 0, .int .i64 0, .slice none 0 0], .bool false])) w' := by
  subst hx
  exact ⟨rfl, ht⟩
theorem PAns.good {pb : Nat} {x : Option (PN × List Tok × Nat)} {w w' : World} {n : PN} {l1 : List Tok} {g1 : Nat} (hx : x = some (n, l1, g1)) (y : NV) (hy : IsP (· < w.heap.size) w' n y) (hp : ParsAt w' pb l1 g1) (ht : Turned (· = pb) w w') : PAns pb x w (.returned (.tuple #[y.v, .bool true])) w' := by
  subst hx
  exact ⟨y, rfl, hy, hp, ht⟩
theorem out9 {w w2 : World} {pb : Nat} (T : Turned (· = pb) w w2) (v0 v1 v2 v3 v4 v5 v6 v7 v8 : Value) : Turned (· = pb) w (((((((((w2.setCell ⟨w.heap.size, 0, none⟩ v0).setCell ⟨w.heap.size, 1, none⟩ v1).setCell ⟨w.heap.size, 2, none⟩ v2).setCell ⟨w.heap.size, 3, none⟩ v3).setCell ⟨w.heap.size, 4, none⟩ v4).setCell ⟨w.heap.size, 5, none⟩ v5).setCell ⟨w.heap.size, 6, none⟩ v6).setCell ⟨w.heap.size, 7, none⟩ v7).setCell ⟨w.heap.size, 8, none⟩ v8) ∧ Turned (· = w.heap.size) w2 (((((((((w2.setCell ⟨w.heap.size, 0, none⟩ v0).setCell ⟨w.heap.size, 1, none⟩ v1).setCell ⟨w.heap.size, 2, none⟩ v2).setCell ⟨w.heap.size, 3, none⟩ v3).setCell ⟨w.heap.size, 4, none⟩ v4).setCell ⟨w.heap.size, 5, none⟩ v5).setCell ⟨w.heap.size, 6, none⟩ v6).setCell ⟨w.heap.size, 7, none⟩ v7).setCell ⟨w.heap.size, 8, none⟩ v8) := by
  have h2 := (Turned.refl (· = w.heap.size) w2).puts9 (k := w.heap.size) rfl v0 v1 v2 v3 v4 v5 v6 v7 v8
  exact ⟨T.trans h2 (fun i hi h => absurd h (Nat.ne_of_lt hi)), h2⟩
theorem RawOff.fresh {S : Nat → Prop} {w : World} {A : Option Addr} {vs : List Value} (h : RawOff S w A vs) : RawOff (fun k => S k ∨ w.heap.size ≤ k) w A vs := by
  match vs with
  | [] => exact .nil _ _ _
  | v :: r =>
    rcases h with h | ⟨g, o, e, hn, hr⟩
    · cases h
    · refine .inr ⟨g, o, e, fun h => ?_, hr⟩
      have := World.block_lt_of_cell? w _ (hr 0 v rfl)
      rcases h with h | h
      · exact hn h
      · exact Nat.lt_irrefl _ (Nat.lt_of_lt_of_le this h)
theorem IsP.fresh {S : Nat → Prop} {w : World} {t : PN} {x : NV} (h : IsP S w t x) : IsP (fun k => S k ∨ w.heap.size ≤ k) w t x := by
  induction h with
  | mk xs hl hc hr _ ih => exact .mk xs hl hc hr.fresh ih
theorem IsP.turned_off {S T : Nat → Prop} {w w' : World} {t : PN} {x : NV} (h : IsP S w t x) (ht : Turned T w w') (hT : ∀ k, k < w.heap.size → T k → S k) : IsP S w' t x := h.turned (ht.wider hT)
abbrev PtrTo (pb : Nat) : Array Value := #[.pointer (some ⟨pb, 0, none⟩)]
def GroupOk (f : Nat) : Prop := ∀ (w : World) (pb : Nat) (ts : List Tok) (g : Nat), ParsAt w pb ts g → 4 * ts.length + 5 ≤ f → g + ts.length + 1 ≤ 4096 → Calls Try.prog 87 (PtrTo pb) w (PAns pb (groupP f ts g) w)
def PieceOk (f : Nat) : Prop := ∀ (w : World) (pb : Nat) (ts : List Tok) (g : Nat), ParsAt w pb ts g → 4 * ts.length + 2 ≤ f → g + ts.length ≤ 4096 → Calls Try.prog 75 (PtrTo pb) w (PAns pb (pieceP f ts g) w)
set_option maxRecDepth 100000 in
theorem piece_nil {w : World} {pb g : Nat} (f : Nat) (h : ParsAt w pb [] g) : Calls Try.prog 75 (PtrTo pb) w (PAns pb (pieceP (f + 1) [] g) w) := by
  have hl := h.lt
  have HP := Lib.hid h
  unfold PtrTo
  clear h
  go_enter Try.func75, Try.ntmps75
  go_wp2_with fail
  go_at_call 70
  refine (take_is (HP.out.below (bA w _))).mono ?_
  rintro e w2 ⟨rfl, hP2, hT2⟩
  obtain ⟨⟨c0, c1, c2, c3, c4, c5, c6, c7, c8⟩, f0, f1, f2, f3, f4, f5, f6, f7, f8⟩ := box9 (hT2.obj (new_obj w _) (by omega))
  have l0 : w.heap.size < w2.heap.size := by have := hT2.size; rw [World.size_alloc] at this; omega
  have T2 := (Turned.of_below (S := (· = pb)) (bA w (.cells #[.int .i64 0, .int .u64 0, .int .u64 0, .int .u64 0, .int .u64 0, .int .i64 0, .int .i64 0, .int .i64 0, .slice none 0 0] 37))).trans hT2 (fun _ _ h => h)
  have HT2 := Lib.hid T2
  rw [show (headT []).v = .agg #[.int .i64 0, .int .u64 0, .int .u64 0, .int .u64 0, .int .u64 0, .int .i64 0, .int .i64 0] from rfl]
  clear T2 hT2 hP2
  go_wp2_with fail
  refine bodyPost_ret (v := .tuple #[.agg #[.int .i64 0, .int .u64 0, .int .u64 0, .int .u64 0, .int .u64 0, .int .i64 0, .int .i64 0, .int .i64 0, .slice none 0 0], .bool false]) (by simp [results, Try.results75, go_sem, c0, c1, c2, c3, c4, c5, c6, c7, c8, l0]) rfl ?_
  refine PAns.bad (by simp only [pieceP]) ?_
  obtain ⟨A1, A2⟩ := out9 HT2.out (.int .i64 0) (.int .u64 0) (.int .u64 0) (.int .u64 0) (.int .u64 0) (.int .i64 0) (.int .i64 0) (.int .i64 0) (.slice none 0 0)
  exact A1.then_below ((bA _ _).mono A1.size)
set_option maxRecDepth 100000 in
theorem piece_two {w : World} {pb g : Nat} {q lo hi : Int} {TS : Nat → Nat} {r : List Tok} (f : Nat) (hq : q = 2) (h : ParsAt w pb (⟨q, TS, lo, hi⟩ :: r) g) : Calls Try.prog 75 (PtrTo pb) w (PAns pb (pieceP (f + 1) (⟨q, TS, lo, hi⟩ :: r) g) w) := by
  have hl := h.lt
  have HP := Lib.hid h
  have HR := Lib.hid (show pieceP (f + 1) (⟨q, TS, lo, hi⟩ :: r) g = some (.mk 6 noS 0 0 0 [], r, g) by subst hq; simp [pieceP])
  subst hq
  unfold PtrTo
  clear h
  go_enter Try.func75, Try.ntmps75
  go_wp2_with fail
  go_at_call 70
  refine (take_is (HP.out.below (bA w _))).mono ?_
  rintro e w2 ⟨rfl, hP2, hT2⟩
  obtain ⟨⟨c0, c1, c2, c3, c4, c5, c6, c7, c8⟩, f0, f1, f2, f3, f4, f5, f6, f7, f8⟩ := box9 (hT2.obj (new_obj w _) (by omega))
  have l0 : w.heap.size < w2.heap.size := by have := hT2.size; rw [World.size_alloc] at this; omega
  have T2 := (Turned.of_below (S := (· = pb)) (bA w (.cells #[.int .i64 0, .int .u64 0, .int .u64 0, .int .u64 0, .int .u64 0, .int .i64 0, .int .i64 0, .int .i64 0, .slice none 0 0] 37))).trans hT2 (fun _ _ h => h)
  have HT2 := Lib.hid (And.intro T2 hP2)
  rw [show (headT (⟨2, TS, lo, hi⟩ :: r)).v = .agg #[.int .i64 2, .int .u64 (TS 0), .int .u64 (TS 1), .int .u64 (TS 2), .int .u64 (TS 3), .int .i64 lo, .int .i64 hi] from rfl]
  clear T2 hT2 hP2
  go_wp2_with fail
  refine bodyPost_ret (v := .tuple #[.agg #[.int .i64 6, .int .u64 0, .int .u64 0, .int .u64 0, .int .u64 0, .int .i64 0, .int .i64 0, .int .i64 0, .slice none 0 0], .bool true]) (by simp [results, Try.results75, go_sem, c0, c1, c2, c3, c4, c5, c6, c7, c8, l0]) rfl ?_
  obtain ⟨A1, A2⟩ := out9 HT2.out.1 (.int .i64 6) (.int .u64 0) (.int .u64 0) (.int .u64 0) (.int .u64 0) (.int .i64 0) (.int .i64 0) (.int .i64 0) (.slice none 0 0)
  refine PAns.good HR.out ⟨6, noS, 0, 0, 0, none, 0, 0⟩ (IsP.leaf _ _ _ _ _ _ _) ?_ (A1.then_below ((bA _ _).mono (by have := A1.size; exact this)))
  exact (HT2.out.2.turned A2 (fun k h => by rw [h]; exact hl)).below (bA _ _)
set_option maxRecDepth 100000 in
theorem piece_three {w : World} {pb g : Nat} {q lo hi : Int} {TS : Nat → Nat} {r : List Tok} (f : Nat) (hq : q = 3) (h : ParsAt w pb (⟨q, TS, lo, hi⟩ :: r) g) : Calls Try.prog 75 (PtrTo pb) w (PAns pb (pieceP (f + 1) (⟨q, TS, lo, hi⟩ :: r) g) w) := by
  have hl := h.lt
  have HP := Lib.hid h
  have HR := Lib.hid (show pieceP (f + 1) (⟨q, TS, lo, hi⟩ :: r) g = some (.mk 7 noS 0 0 0 [], r, g) by subst hq; simp [pieceP])
  subst hq
  unfold PtrTo
  clear h
  go_enter Try.func75, Try.ntmps75
  go_wp2_with fail
  go_at_call 70
  refine (take_is (HP.out.below (bA w _))).mono ?_
  rintro e w2 ⟨rfl, hP2, hT2⟩
  obtain ⟨⟨c0, c1, c2, c3, c4, c5, c6, c7, c8⟩, f0, f1, f2, f3, f4, f5, f6, f7, f8⟩ := box9 (hT2.obj (new_obj w _) (by omega))
  have l0 : w.heap.size < w2.heap.size := by have := hT2.size; rw [World.size_alloc] at this; omega
  have T2 := (Turned.of_below (S := (· = pb)) (bA w (.cells #[.int .i64 0, .int .u64 0, .int .u64 0, .int .u64 0, .int .u64 0, .int .i64 0, .int .i64 0, .int .i64 0, .slice none 0 0] 37))).trans hT2 (fun _ _ h => h)
  have HT2 := Lib.hid (And.intro T2 hP2)
  rw [show (headT (⟨3, TS, lo, hi⟩ :: r)).v = .agg #[.int .i64 3, .int .u64 (TS 0), .int .u64 (TS 1), .int .u64 (TS 2), .int .u64 (TS 3), .int .i64 lo, .int .i64 hi] from rfl]
  clear T2 hT2 hP2
  go_wp2_with fail
  refine bodyPost_ret (v := .tuple #[.agg #[.int .i64 7, .int .u64 0, .int .u64 0, .int .u64 0, .int .u64 0, .int .i64 0, .int .i64 0, .int .i64 0, .slice none 0 0], .bool true]) (by simp [results, Try.results75, go_sem, c0, c1, c2, c3, c4, c5, c6, c7, c8, l0]) rfl ?_
  obtain ⟨A1, A2⟩ := out9 HT2.out.1 (.int .i64 7) (.int .u64 0) (.int .u64 0) (.int .u64 0) (.int .u64 0) (.int .i64 0) (.int .i64 0) (.int .i64 0) (.slice none 0 0)
  refine PAns.good HR.out ⟨7, noS, 0, 0, 0, none, 0, 0⟩ (IsP.leaf _ _ _ _ _ _ _) ?_ (A1.then_below ((bA _ _).mono (by have := A1.size; exact this)))
  exact (HT2.out.2.turned A2 (fun k h => by rw [h]; exact hl)).below (bA _ _)
set_option maxRecDepth 100000 in
theorem piece_else {w : World} {pb g : Nat} {q lo hi : Int} {TS : Nat → Nat} {r : List Tok} (f : Nat) (h1 : q ≠ 1) (h2 : q ≠ 2) (h3 : q ≠ 3) (h4 : q ≠ 4) (h : ParsAt w pb (⟨q, TS, lo, hi⟩ :: r) g) : Calls Try.prog 75 (PtrTo pb) w (PAns pb (pieceP (f + 1) (⟨q, TS, lo, hi⟩ :: r) g) w) := by
  have hl := h.lt
  have HP := Lib.hid h
  have HR := Lib.hid (show pieceP (f + 1) (⟨q, TS, lo, hi⟩ :: r) g = none by simp [pieceP, h1, h2, h3, h4])
  have t1 : (q == 1) = false := by rw [beq_eq_false_iff_ne]; exact h1
  have t2 : (q == 2) = false := by rw [beq_eq_false_iff_ne]; exact h2
  have t3 : (q == 3) = false := by rw [beq_eq_false_iff_ne]; exact h3
  have t4 : (q == 4) = false := by rw [beq_eq_false_iff_ne]; exact h4
  clear h1 h2 h3 h4
  unfold PtrTo
  clear h
  go_enter Try.func75, Try.ntmps75
  go_wp2_with fail
  go_at_call 70
  refine (take_is (HP.out.below (bA w _))).mono ?_
  rintro e w2 ⟨rfl, hP2, hT2⟩
  obtain ⟨⟨c0, c1, c2, c3, c4, c5, c6, c7, c8⟩, f0, f1, f2, f3, f4, f5, f6, f7, f8⟩ := box9 (hT2.obj (new_obj w _) (by omega))
  have l0 : w.heap.size < w2.heap.size := by have := hT2.size; rw [World.size_alloc] at this; omega
  have T2 := (Turned.of_below (S := (· = pb)) (bA w (.cells #[.int .i64 0, .int .u64 0, .int .u64 0, .int .u64 0, .int .u64 0, .int .i64 0, .int .i64 0, .int .i64 0, .slice none 0 0] 37))).trans hT2 (fun _ _ h => h)
  have HT2 := Lib.hid (And.intro T2 hP2)
  rw [show (headT (⟨q, TS, lo, hi⟩ :: r)).v = .agg #[.int .i64 q, .int .u64 (TS 0), .int .u64 (TS 1), .int .u64 (TS 2), .int .u64 (TS 3), .int .i64 lo, .int .i64 hi] from rfl]
  clear T2 hT2 hP2
  go_wp2_with fail
  refine bodyPost_ret (v := .tuple #[.agg #[.int .i64 0, .int .u64 0, .int .u64 0, .int .u64 0, .int .u64 0, .int .i64 0, .int .i64 0, .int .i64 0, .slice none 0 0], .bool false]) (by simp [results, Try.results75, go_sem, c0, c1, c2, c3, c4, c5, c6, c7, c8, l0]) rfl ?_
  refine PAns.bad HR.out ?_
  obtain ⟨A1, A2⟩ := out9 HT2.out.1 (.int .i64 0) (.int .u64 0) (.int .u64 0) (.int .u64 0) (.int .u64 0) (.int .i64 0) (.int .i64 0) (.int .i64 0) (.slice none 0 0)
  exact A1.then_below ((bA _ _).mono A1.size)
set_option maxRecDepth 100000 in
theorem piece_one {w : World} {pb g : Nat} {q lo hi : Int} {TS : Nat → Nat} {r : List Tok} (f : Nat) (hq : q = 1) (h : ParsAt w pb (⟨q, TS, lo, hi⟩ :: r) g) : Calls Try.prog 75 (PtrTo pb) w (PAns pb (pieceP (f + 1) (⟨q, TS, lo, hi⟩ :: r) g) w) := by
  have hl := h.lt
  have HP := Lib.hid h
  have HR := Lib.hid (show pieceP (f + 1) (⟨q, TS, lo, hi⟩ :: r) g = some ((repP (.mk 1 TS 0 0 0 []) r).1, (repP (.mk 1 TS 0 0 0 []) r).2, g) by subst hq; simp [pieceP])
  subst hq
  unfold PtrTo
  clear h
  go_enter Try.func75, Try.ntmps75
  go_wp2_with fail
  go_at_call 70
  refine (take_is (HP.out.below (bA w _))).mono ?_
  rintro e w2 ⟨rfl, hP2, hT2⟩
  obtain ⟨⟨c0, c1, c2, c3, c4, c5, c6, c7, c8⟩, f0, f1, f2, f3, f4, f5, f6, f7, f8⟩ := box9 (hT2.obj (new_obj w _) (by omega))
  have l0 : w.heap.size < w2.heap.size := by have := hT2.size; rw [World.size_alloc] at this; omega
  have T2 := (Turned.of_below (S := (· = pb)) (bA w (.cells #[.int .i64 0, .int .u64 0, .int .u64 0, .int .u64 0, .int .u64 0, .int .i64 0, .int .i64 0, .int .i64 0, .slice none 0 0] 37))).trans hT2 (fun _ _ h => h)
  have HT2 := Lib.hid (And.intro T2 hP2)
  rw [show (headT (⟨1, TS, lo, hi⟩ :: r)).v = .agg #[.int .i64 1, .int .u64 (TS 0), .int .u64 (TS 1), .int .u64 (TS 2), .int .u64 (TS 3), .int .i64 lo, .int .i64 hi] from rfl]
  have HO := Lib.hid (hT2.obj (new_obj w _) (by omega))
  clear T2 hT2 hP2 c0 c1 c2 c3 c4 c5 c6 c7 c8 f0 f1 f2 f3 f4 f5 f6 f7 f8
  go_wp2_with fail
  go_at_call 86
  refine (repeated_is (S := (· < w.heap.size + 1)) (y := ⟨1, TS, 0, 0, 0, none, 0, 0⟩) (t := .mk 1 TS 0 0 0 []) (by omega) (fun k hk => by have : k < w.heap.size + 1 := hk; rw [World.size_alloc]; omega) (IsP.leaf _ _ _ _ _ _ _) (HT2.out.2.below (bA _ _))).mono ?_
  rintro e w4 ⟨z, rfl, hz, hP4, hT4⟩
  rw [NV.v_eq]
  obtain ⟨⟨c0, c1, c2, c3, c4, c5, c6, c7, c8⟩, f0, f1, f2, f3, f4, f5, f6, f7, f8⟩ := box9 (hT4.obj (old_obj HO.out _) (by omega))
  have l4 : w.heap.size < w4.heap.size := by have := hT4.size; rw [World.size_alloc] at this; omega
  have HT4 := Lib.hid (And.intro ((HT2.out.1.trans (Turned.of_below (bA w2 _)) (fun _ _ h => h)).trans hT4 (fun _ _ h => h)) (And.intro hz hP4))
  clear hz hP4 hT4
  go_wp2_with fail
  refine bodyPost_ret (v := .tuple #[.agg #[.int .i64 z.kind, .int .u64 (z.set 0), .int .u64 (z.set 1), .int .u64 (z.set 2), .int .u64 (z.set 3), .int .i64 z.lo, .int .i64 z.hi, .int .i64 z.num, .slice z.A z.n z.c], .bool true]) (by simp [results, Try.results75, go_sem, c0, c1, c2, c3, c4, c5, c6, c7, c8]) rfl ?_
  obtain ⟨A1, A2⟩ := out9 HT4.out.1 (.int .i64 z.kind) (.int .u64 (z.set 0)) (.int .u64 (z.set 1)) (.int .u64 (z.set 2)) (.int .u64 (z.set 3)) (.int .i64 z.lo) (.int .i64 z.hi) (.int .i64 z.num) (.slice z.A z.n z.c)
  exact PAns.good HR.out z ((HT4.out.2.1.turned_off A2 (fun k _ h => by show k < w.heap.size + 1; omega)).weaken (fun k h => by show k < w.heap.size + 1; omega)) (HT4.out.2.2.turned A2 (fun k h => by rw [h]; exact hl)) A1
set_option maxRecDepth 100000 in
theorem piece_four {w : World} {pb g : Nat} {q lo hi : Int} {TS : Nat → Nat} {r : List Tok} (f : Nat) (hg : GroupOk f) (hf : 4 * r.length + 5 ≤ f) (hb : g + r.length + 1 ≤ 4096) (hq : q = 4) (h : ParsAt w pb (⟨q, TS, lo, hi⟩ :: r) g) : Calls Try.prog 75 (PtrTo pb) w (PAns pb (pieceP (f + 1) (⟨q, TS, lo, hi⟩ :: r) g) w) := by
  have hl := h.lt
  have HP := Lib.hid h
  have HG := Lib.hid hg
  have HF := Lib.hid (And.intro hf hb)
  have HR := Lib.hid (show (groupP f r g = none → pieceP (f + 1) (⟨q, TS, lo, hi⟩ :: r) g = none) ∧ ∀ n l1 g1, groupP f r g = some (n, l1, g1) → pieceP (f + 1) (⟨q, TS, lo, hi⟩ :: r) g = some ((repP n l1).1, (repP n l1).2, g1) by
    subst hq
    exact ⟨fun h => by simp [pieceP, h], fun n l1 g1 h => by simp [pieceP, h]⟩)
  subst hq
  clear hg hf hb
  unfold PtrTo
  clear h
  go_enter Try.func75, Try.ntmps75
  go_wp2_with fail
  go_at_call 70
  refine (take_is (HP.out.below (bA w _))).mono ?_
  rintro e w2 ⟨rfl, hP2, hT2⟩
  obtain ⟨⟨c0, c1, c2, c3, c4, c5, c6, c7, c8⟩, f0, f1, f2, f3, f4, f5, f6, f7, f8⟩ := box9 (hT2.obj (new_obj w _) (by omega))
  have l0 : w.heap.size < w2.heap.size := by have := hT2.size; rw [World.size_alloc] at this; omega
  have T2 := (Turned.of_below (S := (· = pb)) (bA w (.cells #[.int .i64 0, .int .u64 0, .int .u64 0, .int .u64 0, .int .u64 0, .int .i64 0, .int .i64 0, .int .i64 0, .slice none 0 0] 37))).trans hT2 (fun _ _ h => h)
  have HT2 := Lib.hid (And.intro T2 hP2)
  rw [show (headT (⟨4, TS, lo, hi⟩ :: r)).v = .agg #[.int .i64 4, .int .u64 (TS 0), .int .u64 (TS 1), .int .u64 (TS 2), .int .u64 (TS 3), .int .i64 lo, .int .i64 hi] from rfl]
  have HO := Lib.hid (hT2.obj (new_obj w _) (by omega))
  clear T2 hT2 hP2 c0 c1 c2 c3 c4 c5 c6 c7 c8 f0 f1 f2 f3 f4 f5 f6 f7 f8
  go_wp2_with fail
  go_at_call 87
  refine (HG.out _ pb r g (HT2.out.2.below (bA _ _)) HF.out.1 HF.out.2).mono ?_
  intro e w4 hans
  cases hx : groupP f r g with
  | none =>
    rw [hx] at hans
    obtain ⟨rfl, hT4⟩ := hans
    obtain ⟨⟨c0, c1, c2, c3, c4, c5, c6, c7, c8⟩, f0, f1, f2, f3, f4, f5, f6, f7, f8⟩ := box9 (hT4.obj (old_obj HO.out _) (by omega))
    have l4 : w.heap.size < w4.heap.size := by have := hT4.size; rw [World.size_alloc] at this; omega
    have HT4 := Lib.hid ((HT2.out.1.trans (Turned.of_below (bA w2 _)) (fun _ _ h => h)).trans hT4 (fun _ _ h => h))
    clear hT4
    go_wp2_with fail
    refine bodyPost_ret (v := .tuple #[.agg #[.int .i64 0, .int .u64 0, .int .u64 0, .int .u64 0, .int .u64 0, .int .i64 0, .int .i64 0, .int .i64 0, .slice none 0 0], .bool false]) (by simp [results, Try.results75, go_sem, c0, c1, c2, c3, c4, c5, c6, c7, c8, l4]) rfl ?_
    refine PAns.bad (HR.out.1 hx) ?_
    obtain ⟨A1, A2⟩ := out9 HT4.out (.int .i64 0) (.int .u64 0) (.int .u64 0) (.int .u64 0) (.int .u64 0) (.int .i64 0) (.int .i64 0) (.int .i64 0) (.slice none 0 0)
    exact A1.then_below ((bA _ _).mono A1.size)
  | some x =>
    obtain ⟨n, l1, g1⟩ := x
    rw [hx] at hans
    obtain ⟨y, rfl, hy, hP4, hT4⟩ := hans
    have HO4 := Lib.hid (hT4.obj (old_obj HO.out _) (by omega))
    have l4 : w.heap.size < w4.heap.size := by have := hT4.size; rw [World.size_alloc] at this; omega
    have HT4 := Lib.hid (And.intro ((HT2.out.1.trans (Turned.of_below (bA w2 _)) (fun _ _ h => h)).trans hT4 (fun _ _ h => h)) (And.intro hy hP4))
    clear hT4 hy hP4
    rw [NV.v_eq]
    go_wp2_with fail
    go_at_call 86
    refine (repeated_is (S := (· < w.heap.size + 1)) (y := y) (t := n) (by omega) (fun k hk => by have : k < w.heap.size + 1 := hk; rw [World.size_alloc]; omega) ((HT4.out.2.1.weaken (fun k h => by rw [World.size_alloc]; have : k < w.heap.size + 1 := h; omega)).stays (bA _ _)) (HT4.out.2.2.below (bA _ _))).mono ?_
    rintro e w5 ⟨z, rfl, hz, hP5, hT5⟩
    rw [NV.v_eq]
    obtain ⟨⟨c0, c1, c2, c3, c4, c5, c6, c7, c8⟩, f0, f1, f2, f3, f4, f5, f6, f7, f8⟩ := box9 (hT5.obj (old_obj HO4.out _) (by omega))
    have l5 : w.heap.size < w5.heap.size := by have := hT5.size; rw [World.size_alloc] at this; omega
    have HT5 := Lib.hid (And.intro ((HT4.out.1.trans (Turned.of_below (bA w4 _)) (fun _ _ h => h)).trans hT5 (fun _ _ h => h)) (And.intro hz hP5))
    clear hz hP5 hT5
    go_wp2_with fail
    refine bodyPost_ret (v := .tuple #[.agg #[.int .i64 z.kind, .int .u64 (z.set 0), .int .u64 (z.set 1), .int .u64 (z.set 2), .int .u64 (z.set 3), .int .i64 z.lo, .int .i64 z.hi, .int .i64 z.num, .slice z.A z.n z.c], .bool true]) (by simp [results, Try.results75, go_sem, c0, c1, c2, c3, c4, c5, c6, c7, c8]) rfl ?_
    obtain ⟨A1, A2⟩ := out9 HT5.out.1 (.int .i64 z.kind) (.int .u64 (z.set 0)) (.int .u64 (z.set 1)) (.int .u64 (z.set 2)) (.int .u64 (z.set 3)) (.int .i64 z.lo) (.int .i64 z.hi) (.int .i64 z.num) (.slice z.A z.n z.c)
    exact PAns.good (HR.out.2 n l1 g1 hx) z ((HT5.out.2.1.turned_off A2 (fun k _ h => by show k < w.heap.size + 1; omega)).weaken (fun k h => by show k < w.heap.size + 1; omega)) (HT5.out.2.2.turned A2 (fun k h => by rw [h]; exact hl)) A1
theorem piece_of {f : Nat} (hg : GroupOk f) : PieceOk (f + 1) := by
  intro w pb ts g h hf hb
  match ts with
  | [] => exact piece_nil f h
  | ⟨q, TS, lo, hi⟩ :: r =>
    simp only [List.length_cons] at hf hb
    by_cases h1 : q = 1
    · exact piece_one f h1 h
    by_cases h2 : q = 2
    · exact piece_two f h2 h
    by_cases h3 : q = 3
    · exact piece_three f h3 h
    by_cases h4 : q = 4
    · exact piece_four f hg (by omega) (by omega) h4 h
    exact piece_else f h1 h2 h3 h4 h
open Go.RowKit Go.Deep
set_option maxRecDepth 100000 in
theorem field_kind (q a b c d lo hi : Int) (W : World) : (Instr.field 111 (.agg #[.int .i64 q, .int .u64 a, .int .u64 b, .int .u64 c, .int .u64 d, .int .i64 lo, .int .i64 hi]) 0).run Try.prog W = .ok (.int .i64 q) W := by kernel_rfl
def AltOk (f : Nat) : Prop := ∀ (w : World) (pb : Nat) (ts : List Tok) (g : Nat), ParsAt w pb ts g → 4 * ts.length + 4 ≤ f → g + ts.length ≤ 4096 → Calls Try.prog 63 (PtrTo pb) w (PAns pb (altP f [] ts g) w)
theorem headT_kind (l : List Tok) : (headT l).kind = headK l := by cases l <;> rfl
theorem ParsAt.number {w : World} {pb : Nat} {ts : List Tok} {g : Nat} (h : ParsAt w pb ts g) (n : Nat) : ParsAt (w.setCell ⟨pb, 1, none⟩ (.int .i64 (n : Int))) pb ts n := by
  have hT := (Turned.refl (· = pb) w).put (k := pb) rfl 1 (.int .i64 (n : Int))
  obtain ⟨A, c, ⟨h0, h1⟩, ⟨f0, f1⟩, hc, hr⟩ := h
  exact ⟨A, c, ⟨by simp [go_sem, h0], by simp [go_sem, h1]⟩, ⟨by simp [go_sem, f0], by simp [go_sem, f1]⟩, hc, hr.turned (hT.wider fun k _ h => h ▸ Nat.le_refl _)⟩
set_option maxRecDepth 100000 in
theorem group_of {f : Nat} (ha : AltOk f) : GroupOk (f + 1) := by
  intro w pb ts g h hf hb
  have hl := h.lt
  have HP := Lib.hid h
  have HA := Lib.hid ha
  have HF := Lib.hid (show 4 * ts.length + 4 ≤ f by omega)
  have HG := Lib.hid (show g + 1 + ts.length ≤ 4096 by omega)
  have HR := Lib.hid (show (altP f [] ts (g + 1) = none → groupP (f + 1) ts g = none) ∧ ∀ n l1 g1, altP f [] ts (g + 1) = some (n, l1, g1) → groupP (f + 1) ts g = if 9 < g + 1 ∨ headK l1 ≠ 5 then none else some (.mk 5 noS 0 0 ((g + 1 : Nat) : Int) [n], l1.drop 1, g1) from
    ⟨fun h => by simp only [groupP, h], fun n l1 g1 h => by simp only [groupP, h]⟩)
  have hw : wrap64 ((g : Int) + 1) = ((g + 1 : Nat) : Int) := by rw [IntWalk.wrap64_in _ (by omega)]; rfl
  obtain ⟨⟨A, c, ⟨h0, h1⟩, ⟨f0, f1⟩, hc, hr⟩, hid⟩ := And.intro h True.intro
  clear h hr hc ha hf hb hid
  unfold PtrTo
  obtain ⟨m, hm⟩ : ∃ m, m = g + 1 := ⟨_, rfl⟩
  have HM := Lib.hid hm
  rw [← hm] at hw HG HR
  clear hm
  have HO0 := Lib.hid (show ((w.setCell ⟨pb, 1, none⟩ (.int .i64 (m : Int))).alloc (.cells #[.int .i64 0, .int .u64 0, .int .u64 0, .int .u64 0, .int .u64 0, .int .i64 0, .int .i64 0, .int .i64 0, .slice none 0 0] 37)).heap[w.heap.size]? = some (.cells #[.int .i64 0, .int .u64 0, .int .u64 0, .int .u64 0, .int .u64 0, .int .i64 0, .int .i64 0, .int .i64 0, .slice none 0 0] 37) from by
    have := new_obj (w.setCell ⟨pb, 1, none⟩ (.int .i64 (m : Int))) (.cells #[.int .i64 0, .int .u64 0, .int .u64 0, .int .u64 0, .int .u64 0, .int .i64 0, .int .i64 0, .int .i64 0, .slice none 0 0] 37)
    rwa [World.size_setCell] at this)
  have HT0 := Lib.hid (((Turned.refl (· = pb) w).put (k := pb) rfl 1 (.int .i64 (m : Int))).trans (Turned.of_below (bA _ (.cells #[.int .i64 0, .int .u64 0, .int .u64 0, .int .u64 0, .int .u64 0, .int .i64 0, .int .i64 0, .int .i64 0, .slice none 0 0] 37))) (fun _ _ h => h))
  have HP0 := Lib.hid ((HP.out.number m).below (bA _ (.cells #[.int .i64 0, .int .u64 0, .int .u64 0, .int .u64 0, .int .u64 0, .int .i64 0, .int .i64 0, .int .i64 0, .slice none 0 0] 37)))
  have z0 : ((w.setCell ⟨pb, 1, none⟩ (.int .i64 (m : Int))).alloc (.cells #[.int .i64 0, .int .u64 0, .int .u64 0, .int .u64 0, .int .u64 0, .int .i64 0, .int .i64 0, .int .i64 0, .slice none 0 0] 37)).heap.size = w.heap.size + 1 := by rw [World.size_alloc, World.size_setCell]
  go_enter Try.func87, Try.ntmps87
  go_wp2_with fail
  go_at_call 63
  obtain ⟨w0, hw0⟩ : ∃ w0, w0 = (w.setCell ⟨pb, 1, none⟩ (.int .i64 (m : Int))).alloc (.cells #[.int .i64 0, .int .u64 0, .int .u64 0, .int .u64 0, .int .u64 0, .int .i64 0, .int .i64 0, .int .i64 0, .slice none 0 0] 37) := ⟨_, rfl⟩
  rw [← hw0] at HO0 HT0 HP0 z0 ⊢
  clear hw0 h0 h1 f0 f1
  refine (HA.out w0 pb ts m HP0.out HF.out HG.out).mono ?_
  intro e w4 hans
  cases hx : altP f [] ts m with
  | none =>
    rw [hx] at hans
    obtain ⟨rfl, hT4⟩ := hans
    obtain ⟨⟨c0, c1, c2, c3, c4, c5, c6, c7, c8⟩, f0, f1, f2, f3, f4, f5, f6, f7, f8⟩ := box9 (hT4.obj HO0.out (by omega))
    have l4 : w.heap.size < w4.heap.size := by have := hT4.size; omega
    have HT4 := Lib.hid (HT0.out.trans hT4 (fun _ _ h => h))
    clear hT4
    go_wp2_with fail
    refine bodyPost_ret (v := .tuple #[.agg #[.int .i64 0, .int .u64 0, .int .u64 0, .int .u64 0, .int .u64 0, .int .i64 0, .int .i64 0, .int .i64 0, .slice none 0 0], .bool false]) (by simp [results, Try.results87, go_sem, c0, c1, c2, c3, c4, c5, c6, c7, c8, l4]) rfl ?_
    refine PAns.bad (HR.out.1 hx) ?_
    obtain ⟨A1, A2⟩ := out9 HT4.out (.int .i64 0) (.int .u64 0) (.int .u64 0) (.int .u64 0) (.int .u64 0) (.int .i64 0) (.int .i64 0) (.int .i64 0) (.slice none 0 0)
    exact A1.then_below ((bA _ _).mono A1.size)
  | some x =>
    obtain ⟨n, l1, g1⟩ := x
    rw [hx] at hans
    have HR2 := Lib.hid (HR.out.2 n l1 g1 hx)
    clear HR
    obtain ⟨y, rfl, hy, hP4, hT4⟩ := hans
    have hO4 := hT4.obj HO0.out (show ¬ w.heap.size = pb by omega)
    have HO4 := Lib.hid hO4
    have l4 : w.heap.size < w4.heap.size := by have := hT4.size; omega
    rw [z0] at hy
    have HT4 := Lib.hid (And.intro (HT0.out.trans hT4 (fun _ _ h => h)) (And.intro hy hP4))
    clear hT4 hy hP4
    rw [NV.v_eq]
    by_cases h9 : 9 < m
    · have d9 : decide ((m : Int) > 9) = true := decide_eq_true (by omega)
      have HE := Lib.hid (show groupP (f + 1) ts g = none by rw [HR2.out, if_pos (.inl h9)])
      obtain ⟨⟨c0, c1, c2, c3, c4, c5, c6, c7, c8⟩, f0, f1, f2, f3, f4, f5, f6, f7, f8⟩ := box9 (hO4)
      clear h9 HR2 hO4
      go_wp2_with fail
      refine bodyPost_ret (v := .tuple #[.agg #[.int .i64 0, .int .u64 0, .int .u64 0, .int .u64 0, .int .u64 0, .int .i64 0, .int .i64 0, .int .i64 0, .slice none 0 0], .bool false]) (by simp [results, Try.results87, go_sem, c0, c1, c2, c3, c4, c5, c6, c7, c8, l4]) rfl ?_
      refine PAns.bad HE.out ?_
      obtain ⟨A1, A2⟩ := out9 HT4.out.1 (.int .i64 0) (.int .u64 0) (.int .u64 0) (.int .u64 0) (.int .u64 0) (.int .i64 0) (.int .i64 0) (.int .i64 0) (.slice none 0 0)
      exact A1.then_below ((bA _ _).mono A1.size)
    · have d9 : decide ((m : Int) > 9) = false := decide_eq_false (by omega)
      have H9 := Lib.hid h9
      clear h9 hO4
      go_wp2_with fail
      go_at_call 70
      refine (take_is (HT4.out.2.2.below (bA _ _))).mono ?_
      rintro e w6 ⟨rfl, hP6, hT6⟩
      obtain ⟨⟨c0, c1, c2, c3, c4, c5, c6, c7, c8⟩, f0, f1, f2, f3, f4, f5, f6, f7, f8⟩ := box9 (hT6.obj (old_obj HO4.out _) (by omega))
      have hnew := hT6.obj (new_obj w4 _) (show ¬ w4.heap.size = pb by omega)
      have l6 : w.heap.size < w6.heap.size := by have := hT6.size; rw [World.size_alloc] at this; omega
      have l5 : w4.heap.size < w6.heap.size := by have := hT6.size; rw [World.size_alloc] at this; omega
      have HT6 := Lib.hid (And.intro ((HT4.out.1.trans (Turned.of_below (bA w4 (.cells #[.int .i64 y.kind, .int .u64 (y.set 0), .int .u64 (y.set 1), .int .u64 (y.set 2), .int .u64 (y.set 3), .int .i64 y.lo, .int .i64 y.hi, .int .i64 y.num, .slice y.A y.n y.c] 37))) (fun _ _ h => h)).trans hT6 (fun _ _ h => h)) (And.intro hP6 (show IsP (· < w.heap.size + 1) w6 n y from (HT4.out.2.1.stays (bA _ _)).turned_off hT6 (fun k _ h => by show k < w.heap.size + 1; omega))))
      clear hP6 hT6
      obtain ⟨q, hq⟩ : ∃ q, q = (headT l1).kind := ⟨_, rfl⟩
      rw [show (headT l1).v = .agg #[.int .i64 (headT l1).kind, .int .u64 ((headT l1).set 0), .int .u64 ((headT l1).set 1), .int .u64 ((headT l1).set 2), .int .u64 ((headT l1).set 3), .int .i64 (headT l1).lo, .int .i64 (headT l1).hi] from rfl, ← hq]
      have hfd := field_kind q ((headT l1).set 0) ((headT l1).set 1) ((headT l1).set 2) ((headT l1).set 3) (headT l1).lo (headT l1).hi
      by_cases h5 : q = 5
      · have t5 : (q != 5) = false := by simp [h5]
        have HE := Lib.hid (show groupP (f + 1) ts g = some (.mk 5 noS 0 0 (m : Int) [n], l1.drop 1, g1) by rw [HR2.out, if_neg]; rintro (h | h); exact H9.out h; exact h (by rw [← headT_kind, ← hq]; exact h5))
        obtain ⟨⟨k0, k1, k2, k3, k4, k5, k6, k7, k8⟩, _⟩ := box9 hnew
        clear h5 hq HR2 hnew
        go_wp2_with fail
        refine bodyPost_ret (v := .tuple #[.agg #[.int .i64 5, .int .u64 0, .int .u64 0, .int .u64 0, .int .u64 0, .int .i64 0, .int .i64 0, .int .i64 (m : Int), .slice (some ⟨w6.heap.size, 0, none⟩) 1 1], .bool true]) (by simp [results, Try.results87, go_sem, c0, c1, c2, c3, c4, c5, c6, c7, c8, l6]) rfl ?_
        obtain ⟨A1, A2⟩ := out9 HT6.out.1 (.int .i64 5) (.int .u64 0) (.int .u64 0) (.int .u64 0) (.int .u64 0) (.int .i64 0) (.int .i64 0) (.int .i64 (m : Int)) (.slice (some ⟨w6.heap.size, 0, none⟩) 1 1)
        obtain ⟨w7, hw7⟩ : ∃ w7, w7 = (((((((((w6.setCell ⟨w.heap.size, 0, none⟩ (.int .i64 5)).setCell ⟨w.heap.size, 1, none⟩ (.int .u64 0)).setCell ⟨w.heap.size, 2, none⟩ (.int .u64 0)).setCell ⟨w.heap.size, 3, none⟩ (.int .u64 0)).setCell ⟨w.heap.size, 4, none⟩ (.int .u64 0)).setCell ⟨w.heap.size, 5, none⟩ (.int .i64 0)).setCell ⟨w.heap.size, 6, none⟩ (.int .i64 0)).setCell ⟨w.heap.size, 7, none⟩ (.int .i64 (m : Int))).setCell ⟨w.heap.size, 8, none⟩ (.slice (some ⟨w6.heap.size, 0, none⟩) 1 1)) := ⟨_, rfl⟩
        have z7 : w7.heap.size = w6.heap.size := by rw [hw7]; simp
        rw [← hw7] at A1 A2 ⊢
        clear hw7
        have hrow := row_one (S := (· < w.heap.size + 1)) (w := w7) y (fun k hk => by have : k < w.heap.size + 1 := hk; omega) 37
        rw [z7] at hrow
        refine PAns.good HE.out ⟨5, noS, 0, 0, (m : Int), some ⟨w6.heap.size, 0, none⟩, 1, 1⟩ ?_ ?_ (A1.then_below ((bA _ _).mono A1.size))
        · exact ((AllP.one ((HT6.out.2.2.turned_off A2 (fun k _ h => by show k < w.heap.size + 1; omega)).stays (bA _ _))).node (Nat.le_refl _) hrow 5 noS 0 0 (m : Int)).weaken (fun k h => by show k < w.heap.size + 1; omega)
        · exact (HT6.out.2.1.turned A2 (fun k h => by rw [h]; exact hl)).below (bA _ _)
      · have t5 : (q != 5) = true := by simp [h5]
        have HE := Lib.hid (show groupP (f + 1) ts g = none by rw [HR2.out, if_pos]; exact .inr (by rw [← headT_kind, ← hq]; exact h5))
        clear h5 hq HR2 hnew
        go_wp2_with fail
        refine bodyPost_ret (v := .tuple #[.agg #[.int .i64 0, .int .u64 0, .int .u64 0, .int .u64 0, .int .u64 0, .int .i64 0, .int .i64 0, .int .i64 0, .slice none 0 0], .bool false]) (by simp [results, Try.results87, go_sem, c0, c1, c2, c3, c4, c5, c6, c7, c8]) rfl ?_
        refine PAns.bad HE.out ?_
        exact (out9 HT6.out.1 (.int .i64 0) (.int .u64 0) (.int .u64 0) (.int .u64 0) (.int .u64 0) (.int .i64 0) (.int .i64 0) (.int .i64 0) (.slice none 0 0)).1
open Go.RowKit Go.Deep
def lenAt (pb : Nat) (w : World) : Nat := match w.cell? ⟨pb, 0, none⟩ with
  | some (.slice _ n _) => n
  | _ => 0
theorem ParsAt.lenAt {w : World} {pb : Nat} {ts : List Tok} {g : Nat} (h : ParsAt w pb ts g) : lenAt pb w = ts.length := by
  obtain ⟨A, c, ⟨h0, _⟩, _⟩ := h
  simp only [Go.Proofs.Ytncbmdbfdjhkeaa.lenAt, h0]
structure Round (w w' : World) (pb : Nat) (acc : List PN) (xs : List NV) (l : List Tok) (g : Nat) (v : Value) : Prop where
  hl : pb < w.heap.size
  t : Turned (· = pb) w w'
  z : w.heap.size + 1 ≤ w'.heap.size
  o : w'.heap[w.heap.size]? = some (.cells #[.int .i64 0, .int .u64 0, .int .u64 0, .int .u64 0, .int .u64 0, .int .i64 0, .int .i64 0, .int .i64 0, .slice none 0 0] 37)
  p : ParsAt w' pb l g
  r : w'.ownsRow (w.heap.size + 1) 37 9 v acc.length (nsV xs)
  k : AllP (fun k => k < w.heap.size + 1 ∨ v.ownBlock = some k) w' acc xs
  b : acc.length + l.length ≤ 4096 ∧ g + l.length ≤ 4096
theorem Round.own {w w' : World} {pb : Nat} {acc : List PN} {xs : List NV} {l : List Tok} {g : Nat} {v : Value} (h : Round w w' pb acc xs l g v) (k : Nat) (hk : v.ownBlock = some k) : w.heap.size + 1 ≤ k ∧ k < w'.heap.size := World.ownsRow.lt h.r k hk
theorem round_start {w : World} {pb : Nat} {l : List Tok} {g : Nat} (h : ParsAt w pb l g) (hb : g + l.length ≤ 4096) : Round w (w.alloc (.cells #[.int .i64 0, .int .u64 0, .int .u64 0, .int .u64 0, .int .u64 0, .int .i64 0, .int .i64 0, .int .i64 0, .slice none 0 0] 37)) pb [] [] l g (.slice none 0 0) := by
  refine ⟨h.lt, Turned.of_below (bA w _), by rw [World.size_alloc]; exact Nat.le_refl _, new_obj w _, h.below (bA w _), ⟨rfl, .inl ⟨rfl, rfl⟩⟩, AllP.nil _ _, by simp only [List.length_nil]; omega, hb⟩
theorem Round.piece {w w1 w2 : World} {pb : Nat} {acc : List PN} {xs : List NV} {l l1 : List Tok} {g g1 : Nat} {v : Value} {n : PN} {y : NV} (h : Round w w1 pb acc xs l g v) (hT : Turned (· = pb) w1 w2) (hy : IsP (· < w1.heap.size) w2 n y) (hp : ParsAt w2 pb l1 g1) (hl : l1.length < l.length ∧ g1 + l1.length ≤ g + l.length) (o1 : Obj) :
    let w3 := (w2.alloc o1).alloc (.cells #[.int .i64 y.kind, .int .u64 (y.set 0), .int .u64 (y.set 1), .int .u64 (y.set 2), .int .u64 (y.set 3), .int .i64 y.lo, .int .i64 y.hi, .int .i64 y.num, .slice y.A y.n y.c] 37)
    w3.ownsRow (w.heap.size + 1) 37 9 v acc.length (nsV xs) ∧ RawAt w3 (some ⟨w2.heap.size + 1, 0, none⟩) (nsV [y]) ∧ w.heap.size + 1 ≤ w3.heap.size ∧ acc.length + 1 ≤ 1099511627776 ∧
    ∀ v' w4, w4.ownsRow (w.heap.size + 1) 37 9 v' (acc.length + 1) (nsV xs ++ nsV [y]) → Turned (fun j => v.ownBlock = some j) w3 w4 → (∀ k, v'.ownBlock = some k → v.ownBlock = some k ∨ w3.heap.size ≤ k) → Round w w4 pb (acc ++ [n]) (xs ++ [y]) l1 g1 v' := by
  intro w3
  have hB : Below w2.heap.size w2 w3 := (bA w2 o1).alloc (by rw [World.size_alloc]; omega) _
  have hT3 : Turned (· = pb) w1 w3 := hT.trans (Turned.of_below hB) (fun _ _ h => h)
  have hz := hT.size
  have hz3 : w3.heap.size = w2.heap.size + 1 + 1 := by rw [World.size_alloc, World.size_alloc]
  have hz1 := h.z
  have hlt := h.hl
  have hb := h.b
  refine ⟨ownsRow_turned h.r hT3 (fun k hk e => ?_), ?_, by omega, by omega, fun v' w4 hr hA hk => ?_⟩
  · have := (h.own k hk).1
    omega
  · have := (row_one (S := fun _ => False) (w := w2.alloc o1) y (fun k h => h.elim) 37).raw
    rw [World.size_alloc] at this
    exact this
  · have hA' : Turned (fun k => k < w.heap.size + 1 ∨ v.ownBlock = some k) w3 w4 := hA.wider fun k _ h => .inr h
    have kold : AllP (fun k => k < w.heap.size + 1 ∨ v.ownBlock = some k) w3 acc xs := h.k.turned (hT3.wider fun k _ h => .inl (by rw [h]; omega))
    have knew : IsP (fun k => k < w.heap.size + 1 ∨ v.ownBlock = some k) w3 n y := (hy.stays hB).weaken fun k hk => by
      rcases hk with hk | hk
      · omega
      · exact (h.own k hk).2
    have kall := kold.push knew
    have hS : ∀ k, (k < w.heap.size + 1 ∨ v'.ownBlock = some k) → (k < w.heap.size + 1 ∨ v.ownBlock = some k) ∨ w3.heap.size ≤ k := fun k h => by
      rcases h with h | h
      · exact .inl (.inl h)
      · rcases hk k h with h | h
        · exact .inl (.inr h)
        · exact .inr h
    refine ⟨h.hl, ?_, ?_, ?_, ?_, ?_, ?_, ?_, ?_⟩
    · exact (h.t.trans hT3 (fun _ _ h => h)).trans hA (fun i hi hh => by have := (h.own i hh).1; omega)
    · have := hA.size; omega
    · exact hA.obj (hT3.obj h.o (by omega)) (fun hh => by have := (h.own _ hh).1; omega)
    · exact (hp.below hB).turned hA (fun k hh => by have := (h.own k hh).1; omega)
    · rw [List.length_append, nsV_append]
      exact hr
    · refine ⟨kall.1, fun i t x h1 h2 => ?_⟩
      exact ((kall.2 i t x h1 h2).fresh.turned (hA.wider fun k _ h => .inl (.inr h))).weaken hS
    · rw [List.length_append]
      simp only [List.length_cons, List.length_nil]
      omega
    · omega
open Go.RowKit Go.Deep
def RowOk (f : Nat) : Prop := ∀ (w : World) (pb : Nat) (ts : List Tok) (g : Nat), ParsAt w pb ts g → 4 * ts.length + 3 ≤ f → g + ts.length ≤ 4096 → Calls Try.prog 69 (PtrTo pb) w (PAns pb (rowP f [] ts g) w)
theorem row_step {f : Nat} {acc : List PN} {l : List Tok} {g : Nat} {R : Option (PN × List Tok × Nat)} (h : rowP (f + 1) acc l g = R) : (pieceP f l g = none → R = none) ∧ ∀ n l1 g1, pieceP f l g = some (n, l1, g1) → (if headK l1 ≠ 0 ∧ headK l1 ≠ 6 ∧ headK l1 ≠ 5 then rowP f (acc ++ [n]) l1 g1 else some (joinK 2 (acc ++ [n]), l1, g1)) = R :=
  ⟨fun hn => by rw [← h]; simp only [rowP, hn], fun n l1 g1 hs => by rw [← h]; simp only [rowP, hs]⟩
set_option maxRecDepth 100000 in
set_option maxHeartbeats 2000000 in
theorem row_of {f : Nat} (hp : ∀ k, k ≤ f → PieceOk k) : RowOk (f + 1) := by
  intro w pb ts g h hf hb
  have hl := h.lt
  have HP := Lib.hid hp
  have HST := Lib.hid (round_start h hb)
  have HF := Lib.hid hf
  unfold PtrTo
  obtain ⟨R, hR⟩ : ∃ R, R = rowP (f + 1) [] ts g := ⟨_, rfl⟩
  rw [← hR]
  have HR0 := Lib.hid hR
  clear h hp hf hb hR
  go_enter Try.func69, Try.ntmps69
  go_wp2_with fail
  refine wp_scope_again 0 (fun a' w' => ∃ (F : Nat) (acc : List PN) (xs : List NV) (l : List Tok) (g' : Nat) (v : Value) (u5 u6 u7 u8 u9 u10 u11 u12 u13 u14 u15 u16 u17 u18 u19 u20 u21 u22 u23 u24 u25 u26 u27 u28 u29 u30 u31 u32 u33 : Value), rowP F acc l g' = R ∧ 4 * l.length + 3 ≤ F ∧ F ≤ f + 1 ∧ Round w w' pb acc xs l g' v ∧ a' = { tmps := #[.pointer (some ⟨pb, 0, none⟩), undef, .pointer (some ⟨w.heap.size, 0, none⟩), .bool false, v, u5, u6, u7, u8, u9, u10, u11, u12, u13, u14, u15, u16, u17, u18, u19, u20, u21, u22, u23, u24, u25, u26, u27, u28, u29, u30, u31, u32, u33], defers := [] }) (fun _ w' => lenAt pb w') rfl ?_ ?_
  · intro hq
    have HQ := Lib.hid hq
    clear hq
    go_wp2_with fail
    go_step3
    simp only [Exit.then]
    rename_i hK
    exact hK _ _ (HQ.out _ _ ⟨f + 1, [], [], ts, g, _, _, _, _, _, _, _, _, _, _, _, _, _, _, _, _, _, _, _, _, _, _, _, _, _, _, _, _, _, _, HR0.out.symm, HF.out, Nat.le_refl _, HST.out, rfl⟩)
  · rintro a' w1 ⟨F, acc, xs, l, g', v, u5, u6, u7, u8, u9, u10, u11, u12, u13, u14, u15, u16, u17, u18, u19, u20, u21, u22, u23, u24, u25, u26, u27, u28, u29, u30, u31, u32, u33, hR, hF, hFf, hRD, rfl⟩
    obtain ⟨F, rfl⟩ : ∃ F', F = F' + 1 := ⟨F - 1, by omega⟩
    have HRD1 := Lib.hid hRD
    have HR := Lib.hid (row_step hR)
    have HFB := Lib.hid (And.intro hF hFf)
    have HLA := Lib.hid hRD.p.lenAt
    clear hR hF hFf hRD
    go_wp2_with fail
    go_at_call 75
    refine (HP.out F (by have := HFB.out; omega) w1 pb l g' HRD1.out.p (by have := HFB.out; omega) HRD1.out.b.2).mono ?_
    intro e w2 hans
    cases hx : pieceP F l g' with
    | none =>
      rw [hx] at hans
      obtain ⟨rfl, hT2⟩ := hans
      obtain ⟨⟨c0, c1, c2, c3, c4, c5, c6, c7, c8⟩, f0, f1, f2, f3, f4, f5, f6, f7, f8⟩ := box9 (hT2.obj HRD1.out.o (by omega))
      have l2 : w.heap.size < w2.heap.size := by have := hT2.size; have := HRD1.out.z; omega
      have HT2 := Lib.hid (HRD1.out.t.trans hT2 (fun _ _ h => h))
      clear hT2
      go_wp2_with fail
      simp only [Exit.jump]
      refine bodyPost_ret (v := .tuple #[.agg #[.int .i64 0, .int .u64 0, .int .u64 0, .int .u64 0, .int .u64 0, .int .i64 0, .int .i64 0, .int .i64 0, .slice none 0 0], .bool false]) (by simp [results, Try.results69, go_sem, c0, c1, c2, c3, c4, c5, c6, c7, c8, l2]) rfl ?_
      refine PAns.bad (HR.out.1 hx) ?_
      obtain ⟨A1, A2⟩ := out9 HT2.out (.int .i64 0) (.int .u64 0) (.int .u64 0) (.int .u64 0) (.int .u64 0) (.int .i64 0) (.int .i64 0) (.int .i64 0) (.slice none 0 0)
      exact A1.then_below ((bA _ _).mono A1.size)
    | some x =>
      obtain ⟨n, l1, g1⟩ := x
      rw [hx] at hans
      obtain ⟨y, rfl, hy, hP2, hT2⟩ := hans
      have hle := (parse_less F).2.2.1 l g' n l1 g1 hx
      have HLE := Lib.hid hle
      have HW := Lib.hid (HRD1.out.piece hT2 hy hP2 hle (.cells #[.int .i64 y.kind, .int .u64 (y.set 0), .int .u64 (y.set 1), .int .u64 (y.set 2), .int .u64 (y.set 3), .int .i64 y.lo, .int .i64 y.hi, .int .i64 y.num, .slice y.A y.n y.c] 37))
      clear hT2 hy hP2 hle
      rw [NV.v_eq]
      go_wp2_with (refine wpList_append_raw 19 (nsV [y]) elem_node HW.out.1 HW.out.2.1 rfl oneCell_nsV rfl rfl HW.out.2.2.2.1 HW.out.2.2.1 ?_)
      intro v' w4 hr hA hk
      have HRD := Lib.hid (HW.out.2.2.2.2 v' w4 hr hA hk)
      clear hr hA hk HW
      go_wp2_with fail
      go_at_call 64
      refine (next_is HRD.out.p).mono ?_
      rintro e w5 ⟨rfl, rfl⟩
      obtain ⟨q, hq⟩ : ∃ q, q = headK l1 := ⟨_, rfl⟩
      rw [← hq]
      have HQ := Lib.hid hq
      clear hq
      by_cases q0 : q = 0
      · have HE := Lib.hid (show R = some (joinK 2 (acc ++ [n]), l1, g1) by rw [← HR.out.2 n l1 g1 hx, if_neg]; rw [← HQ.out]; exact fun h => h.1 q0)
        have n0 : (q != 0) = false := by simp [q0]
        clear hx
        go_wp2_with fail
        obtain ⟨A, c, rfl, hc, hA, _⟩ := own_off (S := (· < w.heap.size + 1)) HRD.out.r (fun k h => h)
        have HLN := Lib.hid (show (acc ++ [n]).length = acc.length + 1 by simp)
        have HJ := Lib.hid (joined_is (S := (· < w.heap.size + 1)) (w := w5) (k := 2) (ts := acc ++ [n]) (xs := xs ++ [y]) (A := A) (c := c) ⟨HRD.out.k.1, fun i t x h1 h2 => (HRD.out.k.2 i t x h1 h2).weaken (fun k h => .inl h)⟩ hc hA)
        go_at_call 71
        refine HJ.out.mono ?_
        rintro e w6 ⟨z, rfl, hz, hb6⟩
        rw [NV.v_eq]
        obtain ⟨⟨c0, c1, c2, c3, c4, c5, c6, c7, c8⟩, f0, f1, f2, f3, f4, f5, f6, f7, f8⟩ := box9 (Below.obj hb6 HRD.out.o (by have := HRD.out.z; omega))
        have l6 : w.heap.size < w6.heap.size := by have := hb6.size; have := HRD.out.z; omega
        have HT6 := Lib.hid (And.intro (HRD.out.t.trans (Turned.of_below hb6) (fun _ _ h => h)) (And.intro hz (HRD.out.p.below hb6)))
        clear hz hb6
        go_wp2_with fail
        simp only [Exit.jump]
        refine bodyPost_ret (v := .tuple #[.agg #[.int .i64 z.kind, .int .u64 (z.set 0), .int .u64 (z.set 1), .int .u64 (z.set 2), .int .u64 (z.set 3), .int .i64 z.lo, .int .i64 z.hi, .int .i64 z.num, .slice z.A z.n z.c], .bool true]) (by simp [results, Try.results69, go_sem, c0, c1, c2, c3, c4, c5, c6, c7, c8]) rfl ?_
        obtain ⟨A1, A2⟩ := out9 HT6.out.1 (.int .i64 z.kind) (.int .u64 (z.set 0)) (.int .u64 (z.set 1)) (.int .u64 (z.set 2)) (.int .u64 (z.set 3)) (.int .i64 z.lo) (.int .i64 z.hi) (.int .i64 z.num) (.slice z.A z.n z.c)
        exact PAns.good HE.out z ((HT6.out.2.1.turned_off A2 (fun k _ h => by show k < w.heap.size + 1; omega)).weaken (fun k h => by show k < w.heap.size + 1; omega)) (HT6.out.2.2.turned A2 (fun k h => by rw [h]; exact hl)) A1
      by_cases q6 : q = 6
      · have HE := Lib.hid (show R = some (joinK 2 (acc ++ [n]), l1, g1) by rw [← HR.out.2 n l1 g1 hx, if_neg]; rw [← HQ.out]; exact fun h => h.2.1 q6)
        have n0 : (q != 0) = true := by simp [q0]
        have n6 : (q != 6) = false := by simp [q6]
        clear hx
        go_wp2_with fail
        obtain ⟨A, c, rfl, hc, hA, _⟩ := own_off (S := (· < w.heap.size + 1)) HRD.out.r (fun k h => h)
        have HLN := Lib.hid (show (acc ++ [n]).length = acc.length + 1 by simp)
        have HJ := Lib.hid (joined_is (S := (· < w.heap.size + 1)) (w := w5) (k := 2) (ts := acc ++ [n]) (xs := xs ++ [y]) (A := A) (c := c) ⟨HRD.out.k.1, fun i t x h1 h2 => (HRD.out.k.2 i t x h1 h2).weaken (fun k h => .inl h)⟩ hc hA)
        go_at_call 71
        refine HJ.out.mono ?_
        rintro e w6 ⟨z, rfl, hz, hb6⟩
        rw [NV.v_eq]
        obtain ⟨⟨c0, c1, c2, c3, c4, c5, c6, c7, c8⟩, f0, f1, f2, f3, f4, f5, f6, f7, f8⟩ := box9 (Below.obj hb6 HRD.out.o (by have := HRD.out.z; omega))
        have l6 : w.heap.size < w6.heap.size := by have := hb6.size; have := HRD.out.z; omega
        have HT6 := Lib.hid (And.intro (HRD.out.t.trans (Turned.of_below hb6) (fun _ _ h => h)) (And.intro hz (HRD.out.p.below hb6)))
        clear hz hb6
        go_wp2_with fail
        simp only [Exit.jump]
        refine bodyPost_ret (v := .tuple #[.agg #[.int .i64 z.kind, .int .u64 (z.set 0), .int .u64 (z.set 1), .int .u64 (z.set 2), .int .u64 (z.set 3), .int .i64 z.lo, .int .i64 z.hi, .int .i64 z.num, .slice z.A z.n z.c], .bool true]) (by simp [results, Try.results69, go_sem, c0, c1, c2, c3, c4, c5, c6, c7, c8]) rfl ?_
        obtain ⟨A1, A2⟩ := out9 HT6.out.1 (.int .i64 z.kind) (.int .u64 (z.set 0)) (.int .u64 (z.set 1)) (.int .u64 (z.set 2)) (.int .u64 (z.set 3)) (.int .i64 z.lo) (.int .i64 z.hi) (.int .i64 z.num) (.slice z.A z.n z.c)
        exact PAns.good HE.out z ((HT6.out.2.1.turned_off A2 (fun k _ h => by show k < w.heap.size + 1; omega)).weaken (fun k h => by show k < w.heap.size + 1; omega)) (HT6.out.2.2.turned A2 (fun k h => by rw [h]; exact hl)) A1
      by_cases q5 : q = 5
      · have HE := Lib.hid (show R = some (joinK 2 (acc ++ [n]), l1, g1) by rw [← HR.out.2 n l1 g1 hx, if_neg]; rw [← HQ.out]; exact fun h => h.2.2 q5)
        have n0 : (q != 0) = true := by simp [q0]
        have n6 : (q != 6) = true := by simp [q6]
        have n5 : (q != 5) = false := by simp [q5]
        clear hx
        go_wp2_with fail
        obtain ⟨A, c, rfl, hc, hA, _⟩ := own_off (S := (· < w.heap.size + 1)) HRD.out.r (fun k h => h)
        have HLN := Lib.hid (show (acc ++ [n]).length = acc.length + 1 by simp)
        have HJ := Lib.hid (joined_is (S := (· < w.heap.size + 1)) (w := w5) (k := 2) (ts := acc ++ [n]) (xs := xs ++ [y]) (A := A) (c := c) ⟨HRD.out.k.1, fun i t x h1 h2 => (HRD.out.k.2 i t x h1 h2).weaken (fun k h => .inl h)⟩ hc hA)
        go_at_call 71
        refine HJ.out.mono ?_
        rintro e w6 ⟨z, rfl, hz, hb6⟩
        rw [NV.v_eq]
        obtain ⟨⟨c0, c1, c2, c3, c4, c5, c6, c7, c8⟩, f0, f1, f2, f3, f4, f5, f6, f7, f8⟩ := box9 (Below.obj hb6 HRD.out.o (by have := HRD.out.z; omega))
        have l6 : w.heap.size < w6.heap.size := by have := hb6.size; have := HRD.out.z; omega
        have HT6 := Lib.hid (And.intro (HRD.out.t.trans (Turned.of_below hb6) (fun _ _ h => h)) (And.intro hz (HRD.out.p.below hb6)))
        clear hz hb6
        go_wp2_with fail
        simp only [Exit.jump]
        refine bodyPost_ret (v := .tuple #[.agg #[.int .i64 z.kind, .int .u64 (z.set 0), .int .u64 (z.set 1), .int .u64 (z.set 2), .int .u64 (z.set 3), .int .i64 z.lo, .int .i64 z.hi, .int .i64 z.num, .slice z.A z.n z.c], .bool true]) (by simp [results, Try.results69, go_sem, c0, c1, c2, c3, c4, c5, c6, c7, c8]) rfl ?_
        obtain ⟨A1, A2⟩ := out9 HT6.out.1 (.int .i64 z.kind) (.int .u64 (z.set 0)) (.int .u64 (z.set 1)) (.int .u64 (z.set 2)) (.int .u64 (z.set 3)) (.int .i64 z.lo) (.int .i64 z.hi) (.int .i64 z.num) (.slice z.A z.n z.c)
        exact PAns.good HE.out z ((HT6.out.2.1.turned_off A2 (fun k _ h => by show k < w.heap.size + 1; omega)).weaken (fun k h => by show k < w.heap.size + 1; omega)) (HT6.out.2.2.turned A2 (fun k h => by rw [h]; exact hl)) A1
      · have HE := Lib.hid (show rowP F (acc ++ [n]) l1 g1 = R by rw [← HR.out.2 n l1 g1 hx, if_pos]; rw [← HQ.out]; exact ⟨q0, q6, q5⟩)
        have n0 : (q != 0) = true := by simp [q0]
        have n6 : (q != 6) = true := by simp [q6]
        have n5 : (q != 5) = true := by simp [q5]
        clear hx q0 q5 q6
        go_wp2_with fail
        go_step3
        exact ⟨rfl, ⟨F, acc ++ [n], xs ++ [y], l1, g1, v', _, _, _, _, _, _, _, _, _, _, _, _, _, _, _, _, _, _, _, _, _, _, _, _, _, _, _, _, _, HE.out, by have := HFB.out; have := HLE.out; omega, by have := HFB.out; omega, HRD.out, rfl⟩, by rw [HRD.out.p.lenAt, HLA.out]; exact HLE.out.1⟩
open Go.RowKit Go.Deep
theorem alt_step {f : Nat} {acc : List PN} {l : List Tok} {g : Nat} {R : Option (PN × List Tok × Nat)} (h : altP (f + 1) acc l g = R) : (rowP f [] l g = none → R = none) ∧ ∀ n l1 g1, rowP f [] l g = some (n, l1, g1) → (if headK l1 = 6 then altP f (acc ++ [n]) (l1.drop 1) g1 else some (joinK 3 (acc ++ [n]), l1, g1)) = R :=
  ⟨fun hn => by rw [← h]; simp only [altP, hn], fun n l1 g1 hs => by rw [← h]; simp only [altP, hs]⟩
theorem Round.taken {w w1 w2 : World} {pb : Nat} {acc : List PN} {xs : List NV} {l l1 : List Tok} {g : Nat} {v : Value} (h : Round w w1 pb acc xs l g v) (hT : Turned (· = pb) w1 w2) (hp : ParsAt w2 pb l1 g) (hl : l1.length ≤ l.length) : Round w w2 pb acc xs l1 g v := by
  have hlt := h.hl
  have hb := h.b
  refine ⟨h.hl, h.t.trans hT (fun _ _ h => h), Nat.le_trans h.z hT.size, hT.obj h.o (by omega), hp, ownsRow_turned h.r hT (fun k hk e => ?_), h.k.turned (hT.wider fun k _ h => .inl (by rw [h]; omega)), by omega⟩
  have := (h.own k hk).1
  omega
set_option maxRecDepth 100000 in
set_option maxHeartbeats 2000000 in
theorem alt_of {f : Nat} (hp : ∀ k, k ≤ f → RowOk k) : AltOk (f + 1) := by
  intro w pb ts g h hf hb
  have hl := h.lt
  have HP := Lib.hid hp
  have HST := Lib.hid (round_start h hb)
  have HF := Lib.hid hf
  unfold PtrTo
  obtain ⟨R, hR⟩ : ∃ R, R = altP (f + 1) [] ts g := ⟨_, rfl⟩
  rw [← hR]
  have HR0 := Lib.hid hR
  clear h hp hf hb hR
  go_enter Try.func63, Try.ntmps63
  go_wp2_with fail
  refine wp_scope_again 0 (fun a' w' => ∃ (F : Nat) (acc : List PN) (xs : List NV) (l : List Tok) (g' : Nat) (v : Value) (u5 u6 u7 u8 u9 u10 u11 u12 u13 u14 u15 u16 u17 u18 u19 u20 u21 u22 u23 u24 u25 : Value), altP F acc l g' = R ∧ 4 * l.length + 4 ≤ F ∧ F ≤ f + 1 ∧ Round w w' pb acc xs l g' v ∧ a' = { tmps := #[.pointer (some ⟨pb, 0, none⟩), undef, .pointer (some ⟨w.heap.size, 0, none⟩), .bool false, v, u5, u6, u7, u8, u9, u10, u11, u12, u13, u14, u15, u16, u17, u18, u19, u20, u21, u22, u23, u24, u25], defers := [] }) (fun _ w' => lenAt pb w') rfl ?_ ?_
  · intro hq
    have HQ := Lib.hid hq
    clear hq
    go_wp2_with fail
    go_step3
    simp only [Exit.then]
    rename_i hK
    exact hK _ _ (HQ.out _ _ ⟨f + 1, [], [], ts, g, _, _, _, _, _, _, _, _, _, _, _, _, _, _, _, _, _, _, _, _, _, _, HR0.out.symm, HF.out, Nat.le_refl _, HST.out, rfl⟩)
  · rintro a' w1 ⟨F, acc, xs, l, g', v, u5, u6, u7, u8, u9, u10, u11, u12, u13, u14, u15, u16, u17, u18, u19, u20, u21, u22, u23, u24, u25, hR, hF, hFf, hRD, rfl⟩
    obtain ⟨F, rfl⟩ : ∃ F', F = F' + 1 := ⟨F - 1, by omega⟩
    have HRD1 := Lib.hid hRD
    have HR := Lib.hid (alt_step hR)
    have HFB := Lib.hid (And.intro hF hFf)
    have HLA := Lib.hid hRD.p.lenAt
    clear hR hF hFf hRD
    go_wp2_with fail
    go_at_call 69
    refine (HP.out F (by have := HFB.out; omega) w1 pb l g' HRD1.out.p (by have := HFB.out; omega) HRD1.out.b.2).mono ?_
    intro e w2 hans
    cases hx : rowP F [] l g' with
    | none =>
      rw [hx] at hans
      obtain ⟨rfl, hT2⟩ := hans
      obtain ⟨⟨c0, c1, c2, c3, c4, c5, c6, c7, c8⟩, f0, f1, f2, f3, f4, f5, f6, f7, f8⟩ := box9 (hT2.obj HRD1.out.o (by omega))
      have l2 : w.heap.size < w2.heap.size := by have := hT2.size; have := HRD1.out.z; omega
      have HT2 := Lib.hid (HRD1.out.t.trans hT2 (fun _ _ h => h))
      clear hT2
      go_wp2_with fail
      simp only [Exit.jump]
      refine bodyPost_ret (v := .tuple #[.agg #[.int .i64 0, .int .u64 0, .int .u64 0, .int .u64 0, .int .u64 0, .int .i64 0, .int .i64 0, .int .i64 0, .slice none 0 0], .bool false]) (by simp [results, Try.results63, go_sem, c0, c1, c2, c3, c4, c5, c6, c7, c8, l2]) rfl ?_
      refine PAns.bad (HR.out.1 hx) ?_
      obtain ⟨A1, A2⟩ := out9 HT2.out (.int .i64 0) (.int .u64 0) (.int .u64 0) (.int .u64 0) (.int .u64 0) (.int .i64 0) (.int .i64 0) (.int .i64 0) (.slice none 0 0)
      exact A1.then_below ((bA _ _).mono A1.size)
    | some x =>
      obtain ⟨n, l1, g1⟩ := x
      rw [hx] at hans
      obtain ⟨y, rfl, hy, hP2, hT2⟩ := hans
      have hle := (parse_less F).2.1 [] l g' n l1 g1 hx
      have HLE := Lib.hid hle
      have HW := Lib.hid (HRD1.out.piece hT2 hy hP2 hle (.cells #[.int .i64 y.kind, .int .u64 (y.set 0), .int .u64 (y.set 1), .int .u64 (y.set 2), .int .u64 (y.set 3), .int .i64 y.lo, .int .i64 y.hi, .int .i64 y.num, .slice y.A y.n y.c] 37))
      clear hT2 hy hP2 hle
      rw [NV.v_eq]
      go_wp2_with (refine wpList_append_raw 18 (nsV [y]) elem_node HW.out.1 HW.out.2.1 rfl oneCell_nsV rfl rfl HW.out.2.2.2.1 HW.out.2.2.1 ?_)
      intro v' w4 hr hA hk
      have HRD := Lib.hid (HW.out.2.2.2.2 v' w4 hr hA hk)
      clear hr hA hk HW
      go_wp2_with fail
      go_at_call 64
      refine (next_is HRD.out.p).mono ?_
      rintro e w5 ⟨rfl, rfl⟩
      obtain ⟨q, hq⟩ : ∃ q, q = headK l1 := ⟨_, rfl⟩
      rw [← hq]
      have HQ := Lib.hid hq
      clear hq
      by_cases q6 : q = 6
      · have HE := Lib.hid (show altP F (acc ++ [n]) (l1.drop 1) g1 = R by rw [← HR.out.2 n l1 g1 hx, if_pos]; rw [← HQ.out]; exact q6)
        have n6 : (q == 6) = true := by simp [q6]
        clear hx q6
        go_wp2_with fail
        go_at_call 70
        refine (take_is HRD.out.p).mono ?_
        rintro e w6 ⟨rfl, hP6, hT6⟩
        have HRE := Lib.hid (HRD.out.taken hT6 hP6 (by simp))
        clear hP6 hT6
        go_wp2_with fail
        go_step3
        exact ⟨rfl, ⟨F, acc ++ [n], xs ++ [y], l1.drop 1, g1, v', _, _, _, _, _, _, _, _, _, _, _, _, _, _, _, _, _, _, _, _, _, HE.out, by have := HFB.out; have := HLE.out; rw [List.length_drop]; omega, by have := HFB.out; omega, HRE.out, rfl⟩, by rw [HRE.out.p.lenAt, HLA.out, List.length_drop]; have := HLE.out; omega⟩
      · have HE := Lib.hid (show R = some (joinK 3 (acc ++ [n]), l1, g1) by rw [← HR.out.2 n l1 g1 hx, if_neg]; rw [← HQ.out]; exact q6)
        have n6 : (q == 6) = false := by simp [q6]
        clear hx
        go_wp2_with fail
        obtain ⟨A, c, rfl, hc, hA, _⟩ := own_off (S := (· < w.heap.size + 1)) HRD.out.r (fun k h => h)
        have HLN := Lib.hid (show (acc ++ [n]).length = acc.length + 1 by simp)
        have HJ := Lib.hid (joined_is (S := (· < w.heap.size + 1)) (w := w5) (k := 3) (ts := acc ++ [n]) (xs := xs ++ [y]) (A := A) (c := c) ⟨HRD.out.k.1, fun i t x h1 h2 => (HRD.out.k.2 i t x h1 h2).weaken (fun k h => .inl h)⟩ hc hA)
        go_at_call 71
        refine HJ.out.mono ?_
        rintro e w6 ⟨z, rfl, hz, hb6⟩
        rw [NV.v_eq]
        obtain ⟨⟨c0, c1, c2, c3, c4, c5, c6, c7, c8⟩, f0, f1, f2, f3, f4, f5, f6, f7, f8⟩ := box9 (Below.obj hb6 HRD.out.o (by have := HRD.out.z; omega))
        have l6 : w.heap.size < w6.heap.size := by have := hb6.size; have := HRD.out.z; omega
        have HT6 := Lib.hid (And.intro (HRD.out.t.trans (Turned.of_below hb6) (fun _ _ h => h)) (And.intro hz (HRD.out.p.below hb6)))
        clear hz hb6
        go_wp2_with fail
        simp only [Exit.jump]
        refine bodyPost_ret (v := .tuple #[.agg #[.int .i64 z.kind, .int .u64 (z.set 0), .int .u64 (z.set 1), .int .u64 (z.set 2), .int .u64 (z.set 3), .int .i64 z.lo, .int .i64 z.hi, .int .i64 z.num, .slice z.A z.n z.c], .bool true]) (by simp [results, Try.results63, go_sem, c0, c1, c2, c3, c4, c5, c6, c7, c8]) rfl ?_
        obtain ⟨A1, A2⟩ := out9 HT6.out.1 (.int .i64 z.kind) (.int .u64 (z.set 0)) (.int .u64 (z.set 1)) (.int .u64 (z.set 2)) (.int .u64 (z.set 3)) (.int .i64 z.lo) (.int .i64 z.hi) (.int .i64 z.num) (.slice z.A z.n z.c)
        exact PAns.good HE.out z ((HT6.out.2.1.turned_off A2 (fun k _ h => by show k < w.heap.size + 1; omega)).weaken (fun k h => by show k < w.heap.size + 1; omega)) (HT6.out.2.2.turned A2 (fun k h => by rw [h]; exact hl)) A1
theorem parser_ok : ∀ f : Nat, PieceOk f ∧ RowOk f ∧ AltOk f ∧ GroupOk f
  | 0 => ⟨fun w pb ts g _ h _ => by omega, fun w pb ts g _ h _ => by omega, fun w pb ts g _ h _ => by omega, fun w pb ts g _ h _ => by omega⟩
  | f + 1 => by
    have ih := fun k (h : k ≤ f) => parser_ok k
    exact ⟨piece_of (ih f (Nat.le_refl _)).2.2.2, row_of (fun k h => (ih k h).1), alt_of (fun k h => (ih k h).2.1), group_of (ih f (Nat.le_refl _)).2.2.1⟩
open Go.RowKit Go.Deep
theorem toksF_len {bk : BkF} {ext : Bool} : ∀ (k : Nat) (ah : Int) (l : List UInt8) (ts : List Tok), toksF bk ext k ah l = some ts → ts.length ≤ k
  | 0, ah, [], ts, h => by simp [toksF] at h; subst h; simp
  | 0, ah, c :: r, ts, h => by simp [toksF] at h
  | k + 1, ah, [], ts, h => by simp [toksF] at h; subst h; simp
  | k + 1, ah, c :: r, ts, h => by
    simp only [toksF] at h
    split at h
    · cases h
    · obtain ⟨us, hu, rfl⟩ := Option.map_eq_some_iff.1 h
      have := toksF_len k _ _ us hu
      simp only [List.length_cons]
      omega
theorem pars_new {w : World} {A : Option Addr} {ts : List Tok} {c : Nat} (hr : RawAt w A (tsV ts)) (hc : ts.length ≤ c) : ParsAt (w.alloc (.cells #[.slice A ts.length c, .int .i64 0] 100)) w.heap.size ts 0 := by
  refine ⟨A, c, ⟨by simp [go_sem], by simp [go_sem]⟩, ⟨by simp [go_sem], by simp [go_sem]⟩, hc, ?_⟩
  have h2 := hr.below (bA w (.cells #[.slice A ts.length c, .int .i64 0] 100))
  rcases hr with hr | ⟨g, o, e, hr⟩
  · exact .inl hr
  · match hts : tsV ts with
    | [] => exact .inl rfl
    | v :: r =>
      rw [hts] at hr h2
      have hg : g < w.heap.size := World.block_lt_of_cell? w _ (hr 0 v rfl)
      rcases h2 with h2 | ⟨g', o', e', hr'⟩
      · cases h2
      · rw [e] at e'
        cases e'
        exact .inr ⟨g, o, e, fun h => by omega, hr'⟩
theorem parse_cases {bk : BkF} {ext : Bool} {l : List UInt8} {R : Option PN} (eR : R = parseP bk ext l) (hz : ¬ 200 < l.length) : (toksF bk ext 200 4 l = none → R = none) ∧ ∀ ts, toksF bk ext 200 4 l = some ts → (altP 1001 [] ts 0 = none → R = none) ∧ ∀ n r g, altP 1001 [] ts 0 = some (n, r, g) → R = if headK r = 0 then some n else none := by
  subst eR
  unfold parseP
  rw [if_neg hz]
  refine ⟨fun h => by rw [h], fun ts h => ⟨fun h2 => by simp only [h, h2], fun n r g h2 => by simp only [h, h2]⟩⟩
def ParseAns (x : Option PN) (w : World) (e : Ending) (w' : World) : Prop := match x with
  | none => e = .returned (.tuple #[.agg #[.int .i64 0, .int .u64 0, .int .u64 0, .int .u64 0, .int .u64 0, .int .i64 0, .int .i64 0, .int .i64 0, .slice none 0 0], .int .i64 91]) ∧ Below w.heap.size w w'
  | some n => ∃ y : NV, e = .returned (.tuple #[y.v, .int .i64 0]) ∧ IsP (· < w.heap.size) w' n y ∧ Below w.heap.size w w'
theorem ParseAns.bad {x : Option PN} {w w' : World} (hx : x = none) (hb : Below w.heap.size w w') : ParseAns x w (.returned (.tuple #[.agg #[.int .i64 0, .int .u64 0, .int .u64 0, .int .u64 0, .int .u64 0, .int .i64 0, .int .i64 0, .int .i64 0, .slice none 0 0], .int .i64 91])) w' := by
  subst hx
  exact ⟨rfl, hb⟩
theorem ParseAns.good {x : Option PN} {w w' : World} {n : PN} (hx : x = some n) (y : NV) (hy : IsP (· < w.heap.size) w' n y) (hb : Below w.heap.size w w') : ParseAns x w (.returned (.tuple #[y.v, .int .i64 0])) w' := by
  subst hx
  exact ⟨y, rfl, hy, hb⟩
theorem below_out9 {w w2 : World} (hb : Below w.heap.size w w2) (v0 v1 v2 v3 v4 v5 v6 v7 v8 : Value) : Below w.heap.size w (((((((((w2.setCell ⟨w.heap.size, 0, none⟩ v0).setCell ⟨w.heap.size, 1, none⟩ v1).setCell ⟨w.heap.size, 2, none⟩ v2).setCell ⟨w.heap.size, 3, none⟩ v3).setCell ⟨w.heap.size, 4, none⟩ v4).setCell ⟨w.heap.size, 5, none⟩ v5).setCell ⟨w.heap.size, 6, none⟩ v6).setCell ⟨w.heap.size, 7, none⟩ v7).setCell ⟨w.heap.size, 8, none⟩ v8) :=
  ((((((((hb.setCell (Nat.le_refl _) _).setCell (Nat.le_refl _) _).setCell (Nat.le_refl _) _).setCell (Nat.le_refl _) _).setCell (Nat.le_refl _) _).setCell (Nat.le_refl _) _).setCell (Nat.le_refl _) _).setCell (Nat.le_refl _) _).setCell (Nat.le_refl _) _
set_option maxRecDepth 100000 in
set_option maxHeartbeats 1000000 in
theorem parse_is {bk : BkF} (hbk : BkIs bk) (s : ByteArray) (ext : Bool) (w : World) (hM : MaxAt w) : Calls Try.prog 55 #[.string s, .bool ext] w (ParseAns (parseP bk ext s.data.toList) w) := by
  obtain ⟨R, eR⟩ : ∃ R, R = parseP bk ext s.data.toList := ⟨_, rfl⟩
  rw [← eR]
  have HLEN : s.data.toList.length = s.size := by simp
  by_cases hz : 200 < s.size
  · have hR : R = none := by rw [eR, parseP, if_pos (by rw [HLEN]; exact hz)]
    have HR := Lib.hid hR
    have d : decide ((s.size : Int) > 200) = true := decide_eq_true (by omega)
    clear hR eR HLEN hz
    go_enter Try.func55, Try.ntmps55
    go_wp2_with fail
    refine bodyPost_ret (v := .tuple #[.agg #[.int .i64 0, .int .u64 0, .int .u64 0, .int .u64 0, .int .u64 0, .int .i64 0, .int .i64 0, .int .i64 0, .slice none 0 0], .int .i64 91]) (by simp [results, Try.results55, go_sem]) rfl ?_
    exact ParseAns.bad HR.out (bA w _)
  · have HR := Lib.hid (parse_cases eR (by rw [HLEN]; exact hz))
    have d : decide ((s.size : Int) > 200) = false := decide_eq_false (by omega)
    have HT := Lib.hid (tokens_is hbk s ext 200 (by omega) (by omega) (w.alloc (.cells #[.int .i64 0, .int .u64 0, .int .u64 0, .int .u64 0, .int .u64 0, .int .i64 0, .int .i64 0, .int .i64 0, .slice none 0 0] 37)) (hM.below (bA w _)))
    obtain ⟨o, eo⟩ : ∃ o, o = toksF bk ext 200 4 s.data.toList := ⟨_, rfl⟩
    have HTL := Lib.hid (show ∀ ts, o = some ts → ts.length ≤ 200 from fun ts h => toksF_len 200 4 _ ts (eo ▸ h))
    rw [← eo] at HT HR
    clear eR HLEN hz eo hM hbk
    go_enter Try.func55, Try.ntmps55
    go_wp2_with fail
    go_at_call 62
    refine HT.out.mono ?_
    intro e w1 hans
    clear HT
    cases ho : o with
    | none =>
      rw [ho] at hans
      obtain ⟨rfl, hb1⟩ := hans
      obtain ⟨⟨c0, c1, c2, c3, c4, c5, c6, c7, c8⟩, f0, f1, f2, f3, f4, f5, f6, f7, f8⟩ := box9 (Below.obj hb1 (new_obj w _) (by rw [World.size_alloc]; omega))
      have l1 : w.heap.size < w1.heap.size := by have := hb1.size; rw [World.size_alloc] at this; omega
      have HB := Lib.hid ((bA w _).trans (hb1.mono (by rw [World.size_alloc]; omega)))
      have HE := Lib.hid (HR.out.1 ho)
      clear hb1 HR ho
      go_wp2_with fail
      refine bodyPost_ret (v := .tuple #[.agg #[.int .i64 0, .int .u64 0, .int .u64 0, .int .u64 0, .int .u64 0, .int .i64 0, .int .i64 0, .int .i64 0, .slice none 0 0], .int .i64 91]) (by simp [results, Try.results55, go_sem, c0, c1, c2, c3, c4, c5, c6, c7, c8]) rfl ?_
      exact ParseAns.bad HE.out (below_out9 HB.out (.int .i64 0) (.int .u64 0) (.int .u64 0) (.int .u64 0) (.int .u64 0) (.int .i64 0) (.int .i64 0) (.int .i64 0) (.slice none 0 0))
    | some ts =>
      rw [ho] at hans
      obtain ⟨A, c, rfl, hc, hr, hb1⟩ := hans
      have HO1 := Lib.hid (Below.obj hb1 (new_obj w _) (by rw [World.size_alloc]; omega))
      have l1 : w.heap.size < w1.heap.size := by have := hb1.size; rw [World.size_alloc] at this; omega
      have HB := Lib.hid ((bA w _).trans (hb1.mono (by rw [World.size_alloc]; omega)))
      have HP := Lib.hid (pars_new hr hc)
      have HTS := Lib.hid (HTL.out ts ho)
      clear hb1 hc hr HTL
      go_wp2_with fail
      go_at_call 63
      refine ((parser_ok 1001).2.2.1 _ w1.heap.size ts 0 HP.out (by have := HTS.out; omega) (by have := HTS.out; omega)).mono ?_
      intro e w2 hans
      cases hx : altP 1001 [] ts 0 with
      | none =>
        rw [hx] at hans
        obtain ⟨rfl, hT2⟩ := hans
        obtain ⟨⟨c0, c1, c2, c3, c4, c5, c6, c7, c8⟩, f0, f1, f2, f3, f4, f5, f6, f7, f8⟩ := box9 (hT2.obj (old_obj HO1.out _) (by omega))
        have l2 : w.heap.size < w2.heap.size := by have := hT2.size; rw [World.size_alloc] at this; omega
        have HB2 := Lib.hid ((HB.out.alloc HB.out.size (.cells #[.slice A ts.length c, .int .i64 0] 100)).trans (hT2.below (B := w.heap.size) (by rw [World.size_alloc]; omega) (fun k h => by omega)))
        have HE := Lib.hid ((HR.out.2 ts ho).1 hx)
        clear hT2 HR ho hx
        go_wp2_with fail
        refine bodyPost_ret (v := .tuple #[.agg #[.int .i64 0, .int .u64 0, .int .u64 0, .int .u64 0, .int .u64 0, .int .i64 0, .int .i64 0, .int .i64 0, .slice none 0 0], .int .i64 91]) (by simp [results, Try.results55, go_sem, c0, c1, c2, c3, c4, c5, c6, c7, c8, l2]) rfl ?_
        exact ParseAns.bad HE.out ((below_out9 HB2.out (.int .i64 0) (.int .u64 0) (.int .u64 0) (.int .u64 0) (.int .u64 0) (.int .i64 0) (.int .i64 0) (.int .i64 0) (.slice none 0 0)).alloc (by have := HB2.out.size; simpa using this) _)
      | some x =>
        obtain ⟨n, l1', g1⟩ := x
        rw [hx] at hans
        obtain ⟨y, rfl, hy, hP2, hT2⟩ := hans
        have HO2 := Lib.hid (hT2.obj (old_obj HO1.out _) (by omega))
        have l2 : w.heap.size < w2.heap.size := by have := hT2.size; rw [World.size_alloc] at this; omega
        have HB2 := Lib.hid ((HB.out.alloc HB.out.size (.cells #[.slice A ts.length c, .int .i64 0] 100)).trans (hT2.below (B := w.heap.size) (by rw [World.size_alloc]; omega) (fun k h => by omega)))
        have HR2 := Lib.hid ((HR.out.2 ts ho).2 n l1' g1 hx)
        have HP2 := Lib.hid (And.intro hP2 (show IsP (· < w.heap.size + 1) w2 n y from hy.weaken fun k h => by rw [World.size_alloc]; have : k < w.heap.size + 1 := h; omega))
        clear hT2 HR ho hx hP2 hy
        rw [NV.v_eq]
        go_wp2_with fail
        go_at_call 64
        refine (next_is (HP2.out.1.below (bA _ _))).mono ?_
        rintro e w3 ⟨rfl, rfl⟩
        obtain ⟨⟨c0, c1, c2, c3, c4, c5, c6, c7, c8⟩, f0, f1, f2, f3, f4, f5, f6, f7, f8⟩ := box9 (HO2.out)
        clear HO2
        obtain ⟨q, hq⟩ : ∃ q, q = headK l1' := ⟨_, rfl⟩
        rw [← hq] at HR2 ⊢
        clear hq
        by_cases q0 : q = 0
        · have n0 : (q != 0) = false := by simp [q0]
          have HE := Lib.hid (show R = some n by rw [HR2.out, if_pos q0])
          clear q0 HR2
          go_wp2_with fail
          refine bodyPost_ret (v := .tuple #[.agg #[.int .i64 y.kind, .int .u64 (y.set 0), .int .u64 (y.set 1), .int .u64 (y.set 2), .int .u64 (y.set 3), .int .i64 y.lo, .int .i64 y.hi, .int .i64 y.num, .slice y.A y.n y.c], .int .i64 0]) (by simp [results, Try.results55, go_sem, c0, c1, c2, c3, c4, c5, c6, c7, c8, l2]) rfl ?_
          have A2 := (Turned.refl (· = w.heap.size) w2).puts9 (k := w.heap.size) rfl (.int .i64 y.kind) (.int .u64 (y.set 0)) (.int .u64 (y.set 1)) (.int .u64 (y.set 2)) (.int .u64 (y.set 3)) (.int .i64 y.lo) (.int .i64 y.hi) (.int .i64 y.num) (.slice y.A y.n y.c)
          have hB := below_out9 HB2.out (.int .i64 y.kind) (.int .u64 (y.set 0)) (.int .u64 (y.set 1)) (.int .u64 (y.set 2)) (.int .u64 (y.set 3)) (.int .i64 y.lo) (.int .i64 y.hi) (.int .i64 y.num) (.slice y.A y.n y.c)
          exact ParseAns.good HE.out y ((((HP2.out.2.turned_off A2 (fun k _ h => by show k < w.heap.size + 1; omega)).weaken (fun k h => by show k < w.heap.size + 1; omega))).stays (bA _ _)) (hB.alloc hB.size _)
        · have n0 : (q != 0) = true := by simp [q0]
          have HE := Lib.hid (show R = none by rw [HR2.out, if_neg q0])
          clear q0 HR2
          go_wp2_with fail
          refine bodyPost_ret (v := .tuple #[.agg #[.int .i64 0, .int .u64 0, .int .u64 0, .int .u64 0, .int .u64 0, .int .i64 0, .int .i64 0, .int .i64 0, .slice none 0 0], .int .i64 91]) (by simp [results, Try.results55, go_sem, c0, c1, c2, c3, c4, c5, c6, c7, c8, l2]) rfl ?_
          have hB := below_out9 HB2.out (.int .i64 0) (.int .u64 0) (.int .u64 0) (.int .u64 0) (.int .u64 0) (.int .i64 0) (.int .i64 0) (.int .i64 0) (.slice none 0 0)
          exact ParseAns.bad HE.out (hB.alloc hB.size _)
open Go.RowKit Go.Deep
theorem Brk.end_le {M : World → Prop} {s : ByteArray} {n : Nat} {S : Nat → Nat} {r : Option ((Nat → Nat) × Nat)} (h : Brk M s n S r) : ∀ T m, r = some (T, m) → m + 1 ≤ s.size := by
  induction h with
  | bad _ _ _ => intro T m h; cases h
  | last _ _ _ hk hp =>
    intro T m h
    cases h
    have := pre_size hp
    simp only [ByteArray.size_extract] at this
    have h1 : (ByteArray.mk #[93]).size = 1 := rfl
    omega
  | more _ _ _ _ _ _ ih => exact ih
def bkOn (nt : Bool) (r : Option ((Nat → Nat) × Nat)) : Option ((Nat → Nat) × Nat) := r.map fun p => (if nt = true then notS (withS p.1 10 10) else p.1, p.2 + 1)
theorem bkV_on (nt : Bool) (r : Option ((Nat → Nat) × Nat)) : brkV nt r = bkV (bkOn nt r) := by
  cases r with
  | none => rfl
  | some p => rfl
def BkOk (s : ByteArray) (o : Option ((Nat → Nat) × Nat)) : Prop := (∀ W : World, MaxAt W → Calls Try.prog 90 #[.string s] W fun e w' => e = .returned (bkV o) ∧ Below W.heap.size W w') ∧ ∀ S n, o = some (S, n) → 1 ≤ n ∧ n ≤ s.size
theorem brk_ex (s : ByteArray) (hz : s.size ≤ 4096) : ∃ o : Option ((Nat → Nat) × Nat), BkOk s o := by
  have key : ∀ nt : Bool, pre ⟨#[94]⟩ s = nt → (if nt = true then 1 else 0) ≤ s.size → ∃ o : Option ((Nat → Nat) × Nat), (∀ W : World, MaxAt W → Calls Try.prog 90 #[.string s] W fun e w' => e = .returned (bkV o) ∧ Below W.heap.size W w') ∧ ∀ S n, o = some (S, n) → 1 ≤ n ∧ n ≤ s.size := by
    intro nt hnt hle
    obtain ⟨r, hr⟩ := brkP_ex s s.size (if nt = true then 1 else 0) noS hle (by omega)
    have hb := hr.toBrk (by omega : s.size ≤ 2147483648)
    refine ⟨bkOn nt r, fun W hM => ?_, fun S n h => ?_⟩
    · rw [← bkV_on]
      exact bracket_is MaxAt (fun _ _ h hb => h.below hb) s nt hnt r hb (by omega) W hM
    · obtain ⟨p, hp, he⟩ := Option.map_eq_some_iff.1 h
      have := hb.end_le p.1 p.2 (by rw [hp])
      cases he
      omega
  cases hp : pre ⟨#[94]⟩ s with
  | false => exact key false hp (Nat.zero_le _)
  | true => exact key true hp (by have := pre_size hp; exact this)
open Classical in
noncomputable def bkOf : BkF := fun l => if h : (txt l).size ≤ 4096 then Classical.choose (brk_ex (txt l) h) else none
theorem bkOf_ok (l : List UInt8) (hz : (txt l).size ≤ 4096) : BkOk (txt l) (bkOf l) := by
  have h := Classical.choose_spec (brk_ex (txt l) hz)
  unfold bkOf
  rw [dif_pos hz]
  exact h
theorem bkOf_is : BkIs bkOf := by
  refine ⟨fun s W hs hM => ?_, fun l S n hl h => ?_⟩
  · have h := bkOf_ok s.data.toList (by rw [txt_of]; exact hs)
    rw [txt_of] at h
    exact h.1 W hM
  · have h2 := (bkOf_ok l (by rw [size_txt]; exact hl)).2 S n h
    rw [size_txt] at h2
    exact h2
theorem parse_of (s : ByteArray) (ext : Bool) (w : World) (hM : MaxAt w) : Calls Try.prog 55 #[.string s, .bool ext] w (ParseAns (parseP bkOf ext s.data.toList) w) := parse_is bkOf_is s ext w hM
end Go.Proofs.Ytncbmdbfdjhkeaa

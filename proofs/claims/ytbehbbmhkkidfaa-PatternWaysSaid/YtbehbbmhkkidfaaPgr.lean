/-
  The parser's group, the alternatives' answer given. Conditions: at most 4096 tokens and groups.
  A round of the parser's rows and alternatives: what stays. No condition.
  The parser's row, its pieces' answers given. Conditions: at most 4096 tokens and groups.
-/
import Derived.Test.YtbehbbmhkkidfaaPpc
import Derived.Test.YtbehbbmhkkidfaaCbrk
namespace Go.Proofs.Ytbehbbmhkkidfaa
open Go.RowKit Go.Deep

set_option maxRecDepth 100000 in
theorem field_kind (q a b c d lo hi : Int) (W : World) : (Instr.field 60 (.agg #[.int .i64 q, .int .u64 a, .int .u64 b, .int .u64 c, .int .u64 d, .int .i64 lo, .int .i64 hi]) 0).run Try.prog W = .ok (.int .i64 q) W := by kernel_rfl
def AltOk (f : Nat) : Prop := ∀ (w : World) (pb : Nat) (ts : List Tok) (g : Nat), ParsAt w pb ts g → 4 * ts.length + 4 ≤ f → g + ts.length ≤ 4096 → Calls Try.prog 16 (PtrTo pb) w (PAns pb (altP f [] ts g) w)
theorem headT_kind (l : List Tok) : (headT l).kind = headK l := by cases l <;> rfl
theorem ParsAt.number {w : World} {pb : Nat} {ts : List Tok} {g : Nat} (h : ParsAt w pb ts g) (n : Nat) : ParsAt (w.setCell ⟨pb, 1, none⟩ (.int .i64 (n : Int))) pb ts n := by
  have hT := (Turned.refl (· = pb) w).put (k := pb) rfl 1 (.int .i64 (n : Int))
  obtain ⟨A, c, ⟨h0, h1⟩, ⟨f0, f1⟩, hc, hr⟩ := h
  exact ⟨A, c, ⟨by simp [go_sem, h0], by simp [go_sem, h1]⟩, ⟨by simp [go_sem, f0], by simp [go_sem, f1]⟩, hc, hr.turned (hT.wider fun k _ h => h ▸ Nat.le_refl _)⟩
set_option maxRecDepth 100000 in
theorem group_of {f : Nat} (ha : AltOk f) : GroupOk (f + 1) := by
  intro w pb ts g h hf hb
  have hl := h.lt
  have HP := Lib.hid h
  have HA := Lib.hid ha
  have HF := Lib.hid (show 4 * ts.length + 4 ≤ f by omega)
  have HG := Lib.hid (show g + 1 + ts.length ≤ 4096 by omega)
  have HR := Lib.hid (show (altP f [] ts (g + 1) = none → groupP (f + 1) ts g = none) ∧ ∀ n l1 g1, altP f [] ts (g + 1) = some (n, l1, g1) → groupP (f + 1) ts g = if 9 < g + 1 ∨ headK l1 ≠ 5 then none else some (.mk 5 noS 0 0 ((g + 1 : Nat) : Int) [n], l1.drop 1, g1) from
    ⟨fun h => by simp only [groupP, h], fun n l1 g1 h => by simp only [groupP, h]⟩)
  have hw : wrap64 ((g : Int) + 1) = ((g + 1 : Nat) : Int) := by rw [IntWalk.wrap64_in _ (by omega)]; rfl
  obtain ⟨⟨A, c, ⟨h0, h1⟩, ⟨f0, f1⟩, hc, hr⟩, hid⟩ := And.intro h True.intro
  clear h hr hc ha hf hb hid
  unfold PtrTo
  obtain ⟨m, hm⟩ : ∃ m, m = g + 1 := ⟨_, rfl⟩
  have HM := Lib.hid hm
  rw [← hm] at hw HG HR
  clear hm
  have HO0 := Lib.hid (show ((w.setCell ⟨pb, 1, none⟩ (.int .i64 (m : Int))).alloc (.cells #[.int .i64 0, .int .u64 0, .int .u64 0, .int .u64 0, .int .u64 0, .int .i64 0, .int .i64 0, .int .i64 0, .slice none 0 0] 30)).heap[w.heap.size]? = some (.cells #[.int .i64 0, .int .u64 0, .int .u64 0, .int .u64 0, .int .u64 0, .int .i64 0, .int .i64 0, .int .i64 0, .slice none 0 0] 30) from by
    have := new_obj (w.setCell ⟨pb, 1, none⟩ (.int .i64 (m : Int))) (.cells #[.int .i64 0, .int .u64 0, .int .u64 0, .int .u64 0, .int .u64 0, .int .i64 0, .int .i64 0, .int .i64 0, .slice none 0 0] 30)
    rwa [World.size_setCell] at this)
  have HT0 := Lib.hid (((Turned.refl (· = pb) w).put (k := pb) rfl 1 (.int .i64 (m : Int))).trans (Turned.of_below (bA _ (.cells #[.int .i64 0, .int .u64 0, .int .u64 0, .int .u64 0, .int .u64 0, .int .i64 0, .int .i64 0, .int .i64 0, .slice none 0 0] 30))) (fun _ _ h => h))
  have HP0 := Lib.hid ((HP.out.number m).below (bA _ (.cells #[.int .i64 0, .int .u64 0, .int .u64 0, .int .u64 0, .int .u64 0, .int .i64 0, .int .i64 0, .int .i64 0, .slice none 0 0] 30)))
  have z0 : ((w.setCell ⟨pb, 1, none⟩ (.int .i64 (m : Int))).alloc (.cells #[.int .i64 0, .int .u64 0, .int .u64 0, .int .u64 0, .int .u64 0, .int .i64 0, .int .i64 0, .int .i64 0, .slice none 0 0] 30)).heap.size = w.heap.size + 1 := by rw [World.size_alloc, World.size_setCell]
  go_enter Try.func36, Try.ntmps36
  go_wp2_with fail
  go_at_call 16
  obtain ⟨w0, hw0⟩ : ∃ w0, w0 = (w.setCell ⟨pb, 1, none⟩ (.int .i64 (m : Int))).alloc (.cells #[.int .i64 0, .int .u64 0, .int .u64 0, .int .u64 0, .int .u64 0, .int .i64 0, .int .i64 0, .int .i64 0, .slice none 0 0] 30) := ⟨_, rfl⟩
  rw [← hw0] at HO0 HT0 HP0 z0 ⊢
  clear hw0 h0 h1 f0 f1
  refine (HA.out w0 pb ts m HP0.out HF.out HG.out).mono ?_
  intro e w4 hans
  cases hx : altP f [] ts m with
  | none =>
    rw [hx] at hans
    obtain ⟨rfl, hT4⟩ := hans
    obtain ⟨⟨c0, c1, c2, c3, c4, c5, c6, c7, c8⟩, f0, f1, f2, f3, f4, f5, f6, f7, f8⟩ := box9 (hT4.obj HO0.out (by omega))
    have l4 : w.heap.size < w4.heap.size := by have := hT4.size; omega
    have HT4 := Lib.hid (HT0.out.trans hT4 (fun _ _ h => h))
    clear hT4
    go_wp2_with fail
    refine bodyPost_ret (v := .tuple #[.agg #[.int .i64 0, .int .u64 0, .int .u64 0, .int .u64 0, .int .u64 0, .int .i64 0, .int .i64 0, .int .i64 0, .slice none 0 0], .bool false]) (by simp [results, Try.results36, go_sem, c0, c1, c2, c3, c4, c5, c6, c7, c8, l4]) rfl ?_
    refine PAns.bad (HR.out.1 hx) ?_
    obtain ⟨A1, A2⟩ := out9 HT4.out (.int .i64 0) (.int .u64 0) (.int .u64 0) (.int .u64 0) (.int .u64 0) (.int .i64 0) (.int .i64 0) (.int .i64 0) (.slice none 0 0)
    exact A1.then_below ((bA _ _).mono A1.size)
  | some x =>
    obtain ⟨n, l1, g1⟩ := x
    rw [hx] at hans
    have HR2 := Lib.hid (HR.out.2 n l1 g1 hx)
    clear HR
    obtain ⟨y, rfl, hy, hP4, hT4⟩ := hans
    have hO4 := hT4.obj HO0.out (show ¬ w.heap.size = pb by omega)
    have HO4 := Lib.hid hO4
    have l4 : w.heap.size < w4.heap.size := by have := hT4.size; omega
    rw [z0] at hy
    have HT4 := Lib.hid (And.intro (HT0.out.trans hT4 (fun _ _ h => h)) (And.intro hy hP4))
    clear hT4 hy hP4
    rw [NV.v_eq]
    by_cases h9 : 9 < m
    · have d9 : decide ((m : Int) > 9) = true := decide_eq_true (by omega)
      have HE := Lib.hid (show groupP (f + 1) ts g = none by rw [HR2.out, if_pos (.inl h9)])
      obtain ⟨⟨c0, c1, c2, c3, c4, c5, c6, c7, c8⟩, f0, f1, f2, f3, f4, f5, f6, f7, f8⟩ := box9 (hO4)
      clear h9 HR2 hO4
      go_wp2_with fail
      refine bodyPost_ret (v := .tuple #[.agg #[.int .i64 0, .int .u64 0, .int .u64 0, .int .u64 0, .int .u64 0, .int .i64 0, .int .i64 0, .int .i64 0, .slice none 0 0], .bool false]) (by simp [results, Try.results36, go_sem, c0, c1, c2, c3, c4, c5, c6, c7, c8, l4]) rfl ?_
      refine PAns.bad HE.out ?_
      obtain ⟨A1, A2⟩ := out9 HT4.out.1 (.int .i64 0) (.int .u64 0) (.int .u64 0) (.int .u64 0) (.int .u64 0) (.int .i64 0) (.int .i64 0) (.int .i64 0) (.slice none 0 0)
      exact A1.then_below ((bA _ _).mono A1.size)
    · have d9 : decide ((m : Int) > 9) = false := decide_eq_false (by omega)
      have H9 := Lib.hid h9
      clear h9 hO4
      go_wp2_with fail
      go_at_call 22
      refine (take_is (HT4.out.2.2.below (bA _ _))).mono ?_
      rintro e w6 ⟨rfl, hP6, hT6⟩
      obtain ⟨⟨c0, c1, c2, c3, c4, c5, c6, c7, c8⟩, f0, f1, f2, f3, f4, f5, f6, f7, f8⟩ := box9 (hT6.obj (old_obj HO4.out _) (by omega))
      have hnew := hT6.obj (new_obj w4 _) (show ¬ w4.heap.size = pb by omega)
      have l6 : w.heap.size < w6.heap.size := by have := hT6.size; rw [World.size_alloc] at this; omega
      have l5 : w4.heap.size < w6.heap.size := by have := hT6.size; rw [World.size_alloc] at this; omega
      have HT6 := Lib.hid (And.intro ((HT4.out.1.trans (Turned.of_below (bA w4 (.cells #[.int .i64 y.kind, .int .u64 (y.set 0), .int .u64 (y.set 1), .int .u64 (y.set 2), .int .u64 (y.set 3), .int .i64 y.lo, .int .i64 y.hi, .int .i64 y.num, .slice y.A y.n y.c] 30))) (fun _ _ h => h)).trans hT6 (fun _ _ h => h)) (And.intro hP6 (show IsP (· < w.heap.size + 1) w6 n y from (HT4.out.2.1.stays (bA _ _)).turned_off hT6 (fun k _ h => by show k < w.heap.size + 1; omega))))
      clear hP6 hT6
      obtain ⟨q, hq⟩ : ∃ q, q = (headT l1).kind := ⟨_, rfl⟩
      rw [show (headT l1).v = .agg #[.int .i64 (headT l1).kind, .int .u64 ((headT l1).set 0), .int .u64 ((headT l1).set 1), .int .u64 ((headT l1).set 2), .int .u64 ((headT l1).set 3), .int .i64 (headT l1).lo, .int .i64 (headT l1).hi] from rfl, ← hq]
      have hfd := field_kind q ((headT l1).set 0) ((headT l1).set 1) ((headT l1).set 2) ((headT l1).set 3) (headT l1).lo (headT l1).hi
      by_cases h5 : q = 5
      · have t5 : (q != 5) = false := by simp [h5]
        have HE := Lib.hid (show groupP (f + 1) ts g = some (.mk 5 noS 0 0 (m : Int) [n], l1.drop 1, g1) by rw [HR2.out, if_neg]; rintro (h | h); exact H9.out h; exact h (by rw [← headT_kind, ← hq]; exact h5))
        obtain ⟨⟨k0, k1, k2, k3, k4, k5, k6, k7, k8⟩, _⟩ := box9 hnew
        clear h5 hq HR2 hnew
        go_wp2_with fail
        refine bodyPost_ret (v := .tuple #[.agg #[.int .i64 5, .int .u64 0, .int .u64 0, .int .u64 0, .int .u64 0, .int .i64 0, .int .i64 0, .int .i64 (m : Int), .slice (some ⟨w6.heap.size, 0, none⟩) 1 1], .bool true]) (by simp [results, Try.results36, go_sem, c0, c1, c2, c3, c4, c5, c6, c7, c8, l6]) rfl ?_
        obtain ⟨A1, A2⟩ := out9 HT6.out.1 (.int .i64 5) (.int .u64 0) (.int .u64 0) (.int .u64 0) (.int .u64 0) (.int .i64 0) (.int .i64 0) (.int .i64 (m : Int)) (.slice (some ⟨w6.heap.size, 0, none⟩) 1 1)
        obtain ⟨w7, hw7⟩ : ∃ w7, w7 = (((((((((w6.setCell ⟨w.heap.size, 0, none⟩ (.int .i64 5)).setCell ⟨w.heap.size, 1, none⟩ (.int .u64 0)).setCell ⟨w.heap.size, 2, none⟩ (.int .u64 0)).setCell ⟨w.heap.size, 3, none⟩ (.int .u64 0)).setCell ⟨w.heap.size, 4, none⟩ (.int .u64 0)).setCell ⟨w.heap.size, 5, none⟩ (.int .i64 0)).setCell ⟨w.heap.size, 6, none⟩ (.int .i64 0)).setCell ⟨w.heap.size, 7, none⟩ (.int .i64 (m : Int))).setCell ⟨w.heap.size, 8, none⟩ (.slice (some ⟨w6.heap.size, 0, none⟩) 1 1)) := ⟨_, rfl⟩
        have z7 : w7.heap.size = w6.heap.size := by rw [hw7]; simp
        rw [← hw7] at A1 A2 ⊢
        clear hw7
        have hrow := row_one (S := (· < w.heap.size + 1)) (w := w7) y (fun k hk => by have : k < w.heap.size + 1 := hk; omega) 30
        rw [z7] at hrow
        refine PAns.good HE.out ⟨5, noS, 0, 0, (m : Int), some ⟨w6.heap.size, 0, none⟩, 1, 1⟩ ?_ ?_ (A1.then_below ((bA _ _).mono A1.size))
        · exact ((AllP.one ((HT6.out.2.2.turned_off A2 (fun k _ h => by show k < w.heap.size + 1; omega)).stays (bA _ _))).node (Nat.le_refl _) hrow 5 noS 0 0 (m : Int)).weaken (fun k h => by show k < w.heap.size + 1; omega)
        · exact (HT6.out.2.1.turned A2 (fun k h => by rw [h]; exact hl)).below (bA _ _)
      · have t5 : (q != 5) = true := by simp [h5]
        have HE := Lib.hid (show groupP (f + 1) ts g = none by rw [HR2.out, if_pos]; exact .inr (by rw [← headT_kind, ← hq]; exact h5))
        clear h5 hq HR2 hnew
        go_wp2_with fail
        refine bodyPost_ret (v := .tuple #[.agg #[.int .i64 0, .int .u64 0, .int .u64 0, .int .u64 0, .int .u64 0, .int .i64 0, .int .i64 0, .int .i64 0, .slice none 0 0], .bool false]) (by simp [results, Try.results36, go_sem, c0, c1, c2, c3, c4, c5, c6, c7, c8]) rfl ?_
        refine PAns.bad HE.out ?_
        exact (out9 HT6.out.1 (.int .i64 0) (.int .u64 0) (.int .u64 0) (.int .u64 0) (.int .u64 0) (.int .i64 0) (.int .i64 0) (.int .i64 0) (.slice none 0 0)).1
end Go.Proofs.Ytbehbbmhkkidfaa

namespace Go.Proofs.Ytbehbbmhkkidfaa
open Go.RowKit Go.Deep

/-- How many tokens are left, as the parser's cell says it. -/
def lenAt (pb : Nat) (w : World) : Nat := match w.cell? ⟨pb, 0, none⟩ with
  | some (.slice _ n _) => n
  | _ => 0
theorem ParsAt.lenAt {w : World} {pb : Nat} {ts : List Tok} {g : Nat} (h : ParsAt w pb ts g) : lenAt pb w = ts.length := by
  obtain ⟨A, c, ⟨h0, _⟩, _⟩ := h
  simp only [Go.Proofs.Ytbehbbmhkkidfaa.lenAt, h0]
/-- What holds where a round begins. -/
structure Round (w w' : World) (pb : Nat) (acc : List PN) (xs : List NV) (l : List Tok) (g : Nat) (v : Value) : Prop where
  hl : pb < w.heap.size
  t : Turned (· = pb) w w'
  z : w.heap.size + 1 ≤ w'.heap.size
  o : w'.heap[w.heap.size]? = some (.cells #[.int .i64 0, .int .u64 0, .int .u64 0, .int .u64 0, .int .u64 0, .int .i64 0, .int .i64 0, .int .i64 0, .slice none 0 0] 30)
  p : ParsAt w' pb l g
  r : w'.ownsRow (w.heap.size + 1) 30 9 v acc.length (nsV xs)
  k : AllP (fun k => k < w.heap.size + 1 ∨ v.ownBlock = some k) w' acc xs
  b : acc.length + l.length ≤ 4096 ∧ g + l.length ≤ 4096
theorem Round.own {w w' : World} {pb : Nat} {acc : List PN} {xs : List NV} {l : List Tok} {g : Nat} {v : Value} (h : Round w w' pb acc xs l g v) (k : Nat) (hk : v.ownBlock = some k) : w.heap.size + 1 ≤ k ∧ k < w'.heap.size := World.ownsRow.lt h.r k hk
theorem round_start {w : World} {pb : Nat} {l : List Tok} {g : Nat} (h : ParsAt w pb l g) (hb : g + l.length ≤ 4096) : Round w (w.alloc (.cells #[.int .i64 0, .int .u64 0, .int .u64 0, .int .u64 0, .int .u64 0, .int .i64 0, .int .i64 0, .int .i64 0, .slice none 0 0] 30)) pb [] [] l g (.slice none 0 0) := by
  refine ⟨h.lt, Turned.of_below (bA w _), by rw [World.size_alloc]; exact Nat.le_refl _, new_obj w _, h.below (bA w _), ⟨rfl, .inl ⟨rfl, rfl⟩⟩, AllP.nil _ _, by simp only [List.length_nil]; omega, hb⟩
/-- A piece more: it is put into a box, and a row of one is made of it. -/
theorem Round.piece {w w1 w2 : World} {pb : Nat} {acc : List PN} {xs : List NV} {l l1 : List Tok} {g g1 : Nat} {v : Value} {n : PN} {y : NV} (h : Round w w1 pb acc xs l g v) (hT : Turned (· = pb) w1 w2) (hy : IsP (· < w1.heap.size) w2 n y) (hp : ParsAt w2 pb l1 g1) (hl : l1.length < l.length ∧ g1 + l1.length ≤ g + l.length) (o1 : Obj) :
    let w3 := (w2.alloc o1).alloc (.cells #[.int .i64 y.kind, .int .u64 (y.set 0), .int .u64 (y.set 1), .int .u64 (y.set 2), .int .u64 (y.set 3), .int .i64 y.lo, .int .i64 y.hi, .int .i64 y.num, .slice y.A y.n y.c] 30)
    w3.ownsRow (w.heap.size + 1) 30 9 v acc.length (nsV xs) ∧ RawAt w3 (some ⟨w2.heap.size + 1, 0, none⟩) (nsV [y]) ∧ w.heap.size + 1 ≤ w3.heap.size ∧ acc.length + 1 ≤ 1099511627776 ∧
    ∀ v' w4, w4.ownsRow (w.heap.size + 1) 30 9 v' (acc.length + 1) (nsV xs ++ nsV [y]) → Turned (fun j => v.ownBlock = some j) w3 w4 → (∀ k, v'.ownBlock = some k → v.ownBlock = some k ∨ w3.heap.size ≤ k) → Round w w4 pb (acc ++ [n]) (xs ++ [y]) l1 g1 v' := by
  intro w3
  have hB : Below w2.heap.size w2 w3 := (bA w2 o1).alloc (by rw [World.size_alloc]; omega) _
  have hT3 : Turned (· = pb) w1 w3 := hT.trans (Turned.of_below hB) (fun _ _ h => h)
  have hz := hT.size
  have hz3 : w3.heap.size = w2.heap.size + 1 + 1 := by rw [World.size_alloc, World.size_alloc]
  have hz1 := h.z
  have hlt := h.hl
  have hb := h.b
  refine ⟨ownsRow_turned h.r hT3 (fun k hk e => ?_), ?_, by omega, by omega, fun v' w4 hr hA hk => ?_⟩
  · have := (h.own k hk).1
    omega
  · have := (row_one (S := fun _ => False) (w := w2.alloc o1) y (fun k h => h.elim) 30).raw
    rw [World.size_alloc] at this
    exact this
  · have hA' : Turned (fun k => k < w.heap.size + 1 ∨ v.ownBlock = some k) w3 w4 := hA.wider fun k _ h => .inr h
    have kold : AllP (fun k => k < w.heap.size + 1 ∨ v.ownBlock = some k) w3 acc xs := h.k.turned (hT3.wider fun k _ h => .inl (by rw [h]; omega))
    have knew : IsP (fun k => k < w.heap.size + 1 ∨ v.ownBlock = some k) w3 n y := (hy.stays hB).weaken fun k hk => by
      rcases hk with hk | hk
      · omega
      · exact (h.own k hk).2
    have kall := kold.push knew
    have hS : ∀ k, (k < w.heap.size + 1 ∨ v'.ownBlock = some k) → (k < w.heap.size + 1 ∨ v.ownBlock = some k) ∨ w3.heap.size ≤ k := fun k h => by
      rcases h with h | h
      · exact .inl (.inl h)
      · rcases hk k h with h | h
        · exact .inl (.inr h)
        · exact .inr h
    refine ⟨h.hl, ?_, ?_, ?_, ?_, ?_, ?_, ?_, ?_⟩
    · exact (h.t.trans hT3 (fun _ _ h => h)).trans hA (fun i hi hh => by have := (h.own i hh).1; omega)
    · have := hA.size; omega
    · exact hA.obj (hT3.obj h.o (by omega)) (fun hh => by have := (h.own _ hh).1; omega)
    · exact (hp.below hB).turned hA (fun k hh => by have := (h.own k hh).1; omega)
    · rw [List.length_append, nsV_append]
      exact hr
    · refine ⟨kall.1, fun i t x h1 h2 => ?_⟩
      exact ((kall.2 i t x h1 h2).fresh.turned (hA.wider fun k _ h => .inl (.inr h))).weaken hS
    · rw [List.length_append]
      simp only [List.length_cons, List.length_nil]
      omega
    · omega
end Go.Proofs.Ytbehbbmhkkidfaa

namespace Go.Proofs.Ytbehbbmhkkidfaa
open Go.RowKit Go.Deep

def RowOk (f : Nat) : Prop := ∀ (w : World) (pb : Nat) (ts : List Tok) (g : Nat), ParsAt w pb ts g → 4 * ts.length + 3 ≤ f → g + ts.length ≤ 4096 → Calls Try.prog 21 (PtrTo pb) w (PAns pb (rowP f [] ts g) w)
theorem row_step {f : Nat} {acc : List PN} {l : List Tok} {g : Nat} {R : Option (PN × List Tok × Nat)} (h : rowP (f + 1) acc l g = R) : (pieceP f l g = none → R = none) ∧ ∀ n l1 g1, pieceP f l g = some (n, l1, g1) → (if headK l1 ≠ 0 ∧ headK l1 ≠ 6 ∧ headK l1 ≠ 5 then rowP f (acc ++ [n]) l1 g1 else some (joinK 2 (acc ++ [n]), l1, g1)) = R :=
  ⟨fun hn => by rw [← h]; simp only [rowP, hn], fun n l1 g1 hs => by rw [← h]; simp only [rowP, hs]⟩
set_option maxRecDepth 100000 in
set_option maxHeartbeats 2000000 in
theorem row_of {f : Nat} (hp : ∀ k, k ≤ f → PieceOk k) : RowOk (f + 1) := by
  intro w pb ts g h hf hb
  have hl := h.lt
  have HP := Lib.hid hp
  have HST := Lib.hid (round_start h hb)
  have HF := Lib.hid hf
  unfold PtrTo
  obtain ⟨R, hR⟩ : ∃ R, R = rowP (f + 1) [] ts g := ⟨_, rfl⟩
  rw [← hR]
  have HR0 := Lib.hid hR
  clear h hp hf hb hR
  go_enter Try.func21, Try.ntmps21
  go_wp2_with fail
  refine wp_scope_again 0 (fun a' w' => ∃ (F : Nat) (acc : List PN) (xs : List NV) (l : List Tok) (g' : Nat) (v : Value) (u5 u6 u7 u8 u9 u10 u11 u12 u13 u14 u15 u16 u17 u18 u19 u20 u21 u22 u23 u24 u25 u26 u27 u28 u29 u30 u31 u32 u33 : Value), rowP F acc l g' = R ∧ 4 * l.length + 3 ≤ F ∧ F ≤ f + 1 ∧ Round w w' pb acc xs l g' v ∧ a' = { tmps := #[.pointer (some ⟨pb, 0, none⟩), undef, .pointer (some ⟨w.heap.size, 0, none⟩), .bool false, v, u5, u6, u7, u8, u9, u10, u11, u12, u13, u14, u15, u16, u17, u18, u19, u20, u21, u22, u23, u24, u25, u26, u27, u28, u29, u30, u31, u32, u33], defers := [] }) (fun _ w' => lenAt pb w') rfl ?_ ?_
  · intro hq
    have HQ := Lib.hid hq
    clear hq
    go_wp2_with fail
    go_step3
    simp only [Exit.then]
    rename_i hK
    exact hK _ _ (HQ.out _ _ ⟨f + 1, [], [], ts, g, _, _, _, _, _, _, _, _, _, _, _, _, _, _, _, _, _, _, _, _, _, _, _, _, _, _, _, _, _, _, HR0.out.symm, HF.out, Nat.le_refl _, HST.out, rfl⟩)
  · rintro a' w1 ⟨F, acc, xs, l, g', v, u5, u6, u7, u8, u9, u10, u11, u12, u13, u14, u15, u16, u17, u18, u19, u20, u21, u22, u23, u24, u25, u26, u27, u28, u29, u30, u31, u32, u33, hR, hF, hFf, hRD, rfl⟩
    obtain ⟨F, rfl⟩ : ∃ F', F = F' + 1 := ⟨F - 1, by omega⟩
    have HRD1 := Lib.hid hRD
    have HR := Lib.hid (row_step hR)
    have HFB := Lib.hid (And.intro hF hFf)
    have HLA := Lib.hid hRD.p.lenAt
    clear hR hF hFf hRD
    go_wp2_with fail
    go_at_call 26
    refine (HP.out F (by have := HFB.out; omega) w1 pb l g' HRD1.out.p (by have := HFB.out; omega) HRD1.out.b.2).mono ?_
    intro e w2 hans
    cases hx : pieceP F l g' with
    | none =>
      rw [hx] at hans
      obtain ⟨rfl, hT2⟩ := hans
      obtain ⟨⟨c0, c1, c2, c3, c4, c5, c6, c7, c8⟩, f0, f1, f2, f3, f4, f5, f6, f7, f8⟩ := box9 (hT2.obj HRD1.out.o (by omega))
      have l2 : w.heap.size < w2.heap.size := by have := hT2.size; have := HRD1.out.z; omega
      have HT2 := Lib.hid (HRD1.out.t.trans hT2 (fun _ _ h => h))
      clear hT2
      go_wp2_with fail
      simp only [Exit.jump]
      refine bodyPost_ret (v := .tuple #[.agg #[.int .i64 0, .int .u64 0, .int .u64 0, .int .u64 0, .int .u64 0, .int .i64 0, .int .i64 0, .int .i64 0, .slice none 0 0], .bool false]) (by simp [results, Try.results21, go_sem, c0, c1, c2, c3, c4, c5, c6, c7, c8, l2]) rfl ?_
      refine PAns.bad (HR.out.1 hx) ?_
      obtain ⟨A1, A2⟩ := out9 HT2.out (.int .i64 0) (.int .u64 0) (.int .u64 0) (.int .u64 0) (.int .u64 0) (.int .i64 0) (.int .i64 0) (.int .i64 0) (.slice none 0 0)
      exact A1.then_below ((bA _ _).mono A1.size)
    | some x =>
      obtain ⟨n, l1, g1⟩ := x
      rw [hx] at hans
      obtain ⟨y, rfl, hy, hP2, hT2⟩ := hans
      have hle := (parse_less F).2.2.1 l g' n l1 g1 hx
      have HLE := Lib.hid hle
      have HW := Lib.hid (HRD1.out.piece hT2 hy hP2 hle (.cells #[.int .i64 y.kind, .int .u64 (y.set 0), .int .u64 (y.set 1), .int .u64 (y.set 2), .int .u64 (y.set 3), .int .i64 y.lo, .int .i64 y.hi, .int .i64 y.num, .slice y.A y.n y.c] 30))
      clear hT2 hy hP2 hle
      rw [NV.v_eq]
      go_wp2_with (refine wpList_append_raw 19 (nsV [y]) elem_node HW.out.1 HW.out.2.1 rfl oneCell_nsV rfl rfl HW.out.2.2.2.1 HW.out.2.2.1 ?_)
      intro v' w4 hr hA hk
      have HRD := Lib.hid (HW.out.2.2.2.2 v' w4 hr hA hk)
      clear hr hA hk HW
      go_wp2_with fail
      go_at_call 17
      refine (next_is HRD.out.p).mono ?_
      rintro e w5 ⟨rfl, rfl⟩
      obtain ⟨q, hq⟩ : ∃ q, q = headK l1 := ⟨_, rfl⟩
      rw [← hq]
      have HQ := Lib.hid hq
      clear hq
      by_cases q0 : q = 0
      · have HE := Lib.hid (show R = some (joinK 2 (acc ++ [n]), l1, g1) by rw [← HR.out.2 n l1 g1 hx, if_neg]; rw [← HQ.out]; exact fun h => h.1 q0)
        have n0 : (q != 0) = false := by simp [q0]
        clear hx
        go_wp2_with fail
        obtain ⟨A, c, rfl, hc, hA, _⟩ := own_off (S := (· < w.heap.size + 1)) HRD.out.r (fun k h => h)
        have HLN := Lib.hid (show (acc ++ [n]).length = acc.length + 1 by simp)
        have HJ := Lib.hid (joined_is (S := (· < w.heap.size + 1)) (w := w5) (k := 2) (ts := acc ++ [n]) (xs := xs ++ [y]) (A := A) (c := c) ⟨HRD.out.k.1, fun i t x h1 h2 => (HRD.out.k.2 i t x h1 h2).weaken (fun k h => .inl h)⟩ hc hA)
        go_at_call 23
        refine HJ.out.mono ?_
        rintro e w6 ⟨z, rfl, hz, hb6⟩
        rw [NV.v_eq]
        obtain ⟨⟨c0, c1, c2, c3, c4, c5, c6, c7, c8⟩, f0, f1, f2, f3, f4, f5, f6, f7, f8⟩ := box9 (Below.obj hb6 HRD.out.o (by have := HRD.out.z; omega))
        have l6 : w.heap.size < w6.heap.size := by have := hb6.size; have := HRD.out.z; omega
        have HT6 := Lib.hid (And.intro (HRD.out.t.trans (Turned.of_below hb6) (fun _ _ h => h)) (And.intro hz (HRD.out.p.below hb6)))
        clear hz hb6
        go_wp2_with fail
        simp only [Exit.jump]
        refine bodyPost_ret (v := .tuple #[.agg #[.int .i64 z.kind, .int .u64 (z.set 0), .int .u64 (z.set 1), .int .u64 (z.set 2), .int .u64 (z.set 3), .int .i64 z.lo, .int .i64 z.hi, .int .i64 z.num, .slice z.A z.n z.c], .bool true]) (by simp [results, Try.results21, go_sem, c0, c1, c2, c3, c4, c5, c6, c7, c8]) rfl ?_
        obtain ⟨A1, A2⟩ := out9 HT6.out.1 (.int .i64 z.kind) (.int .u64 (z.set 0)) (.int .u64 (z.set 1)) (.int .u64 (z.set 2)) (.int .u64 (z.set 3)) (.int .i64 z.lo) (.int .i64 z.hi) (.int .i64 z.num) (.slice z.A z.n z.c)
        exact PAns.good HE.out z ((HT6.out.2.1.turned_off A2 (fun k _ h => by show k < w.heap.size + 1; omega)).weaken (fun k h => by show k < w.heap.size + 1; omega)) (HT6.out.2.2.turned A2 (fun k h => by rw [h]; exact hl)) A1
      by_cases q6 : q = 6
      · have HE := Lib.hid (show R = some (joinK 2 (acc ++ [n]), l1, g1) by rw [← HR.out.2 n l1 g1 hx, if_neg]; rw [← HQ.out]; exact fun h => h.2.1 q6)
        have n0 : (q != 0) = true := by simp [q0]
        have n6 : (q != 6) = false := by simp [q6]
        clear hx
        go_wp2_with fail
        obtain ⟨A, c, rfl, hc, hA, _⟩ := own_off (S := (· < w.heap.size + 1)) HRD.out.r (fun k h => h)
        have HLN := Lib.hid (show (acc ++ [n]).length = acc.length + 1 by simp)
        have HJ := Lib.hid (joined_is (S := (· < w.heap.size + 1)) (w := w5) (k := 2) (ts := acc ++ [n]) (xs := xs ++ [y]) (A := A) (c := c) ⟨HRD.out.k.1, fun i t x h1 h2 => (HRD.out.k.2 i t x h1 h2).weaken (fun k h => .inl h)⟩ hc hA)
        go_at_call 23
        refine HJ.out.mono ?_
        rintro e w6 ⟨z, rfl, hz, hb6⟩
        rw [NV.v_eq]
        obtain ⟨⟨c0, c1, c2, c3, c4, c5, c6, c7, c8⟩, f0, f1, f2, f3, f4, f5, f6, f7, f8⟩ := box9 (Below.obj hb6 HRD.out.o (by have := HRD.out.z; omega))
        have l6 : w.heap.size < w6.heap.size := by have := hb6.size; have := HRD.out.z; omega
        have HT6 := Lib.hid (And.intro (HRD.out.t.trans (Turned.of_below hb6) (fun _ _ h => h)) (And.intro hz (HRD.out.p.below hb6)))
        clear hz hb6
        go_wp2_with fail
        simp only [Exit.jump]
        refine bodyPost_ret (v := .tuple #[.agg #[.int .i64 z.kind, .int .u64 (z.set 0), .int .u64 (z.set 1), .int .u64 (z.set 2), .int .u64 (z.set 3), .int .i64 z.lo, .int .i64 z.hi, .int .i64 z.num, .slice z.A z.n z.c], .bool true]) (by simp [results, Try.results21, go_sem, c0, c1, c2, c3, c4, c5, c6, c7, c8]) rfl ?_
        obtain ⟨A1, A2⟩ := out9 HT6.out.1 (.int .i64 z.kind) (.int .u64 (z.set 0)) (.int .u64 (z.set 1)) (.int .u64 (z.set 2)) (.int .u64 (z.set 3)) (.int .i64 z.lo) (.int .i64 z.hi) (.int .i64 z.num) (.slice z.A z.n z.c)
        exact PAns.good HE.out z ((HT6.out.2.1.turned_off A2 (fun k _ h => by show k < w.heap.size + 1; omega)).weaken (fun k h => by show k < w.heap.size + 1; omega)) (HT6.out.2.2.turned A2 (fun k h => by rw [h]; exact hl)) A1
      by_cases q5 : q = 5
      · have HE := Lib.hid (show R = some (joinK 2 (acc ++ [n]), l1, g1) by rw [← HR.out.2 n l1 g1 hx, if_neg]; rw [← HQ.out]; exact fun h => h.2.2 q5)
        have n0 : (q != 0) = true := by simp [q0]
        have n6 : (q != 6) = true := by simp [q6]
        have n5 : (q != 5) = false := by simp [q5]
        clear hx
        go_wp2_with fail
        obtain ⟨A, c, rfl, hc, hA, _⟩ := own_off (S := (· < w.heap.size + 1)) HRD.out.r (fun k h => h)
        have HLN := Lib.hid (show (acc ++ [n]).length = acc.length + 1 by simp)
        have HJ := Lib.hid (joined_is (S := (· < w.heap.size + 1)) (w := w5) (k := 2) (ts := acc ++ [n]) (xs := xs ++ [y]) (A := A) (c := c) ⟨HRD.out.k.1, fun i t x h1 h2 => (HRD.out.k.2 i t x h1 h2).weaken (fun k h => .inl h)⟩ hc hA)
        go_at_call 23
        refine HJ.out.mono ?_
        rintro e w6 ⟨z, rfl, hz, hb6⟩
        rw [NV.v_eq]
        obtain ⟨⟨c0, c1, c2, c3, c4, c5, c6, c7, c8⟩, f0, f1, f2, f3, f4, f5, f6, f7, f8⟩ := box9 (Below.obj hb6 HRD.out.o (by have := HRD.out.z; omega))
        have l6 : w.heap.size < w6.heap.size := by have := hb6.size; have := HRD.out.z; omega
        have HT6 := Lib.hid (And.intro (HRD.out.t.trans (Turned.of_below hb6) (fun _ _ h => h)) (And.intro hz (HRD.out.p.below hb6)))
        clear hz hb6
        go_wp2_with fail
        simp only [Exit.jump]
        refine bodyPost_ret (v := .tuple #[.agg #[.int .i64 z.kind, .int .u64 (z.set 0), .int .u64 (z.set 1), .int .u64 (z.set 2), .int .u64 (z.set 3), .int .i64 z.lo, .int .i64 z.hi, .int .i64 z.num, .slice z.A z.n z.c], .bool true]) (by simp [results, Try.results21, go_sem, c0, c1, c2, c3, c4, c5, c6, c7, c8]) rfl ?_
        obtain ⟨A1, A2⟩ := out9 HT6.out.1 (.int .i64 z.kind) (.int .u64 (z.set 0)) (.int .u64 (z.set 1)) (.int .u64 (z.set 2)) (.int .u64 (z.set 3)) (.int .i64 z.lo) (.int .i64 z.hi) (.int .i64 z.num) (.slice z.A z.n z.c)
        exact PAns.good HE.out z ((HT6.out.2.1.turned_off A2 (fun k _ h => by show k < w.heap.size + 1; omega)).weaken (fun k h => by show k < w.heap.size + 1; omega)) (HT6.out.2.2.turned A2 (fun k h => by rw [h]; exact hl)) A1
      · have HE := Lib.hid (show rowP F (acc ++ [n]) l1 g1 = R by rw [← HR.out.2 n l1 g1 hx, if_pos]; rw [← HQ.out]; exact ⟨q0, q6, q5⟩)
        have n0 : (q != 0) = true := by simp [q0]
        have n6 : (q != 6) = true := by simp [q6]
        have n5 : (q != 5) = true := by simp [q5]
        clear hx q0 q5 q6
        go_wp2_with fail
        go_step3
        exact ⟨rfl, ⟨F, acc ++ [n], xs ++ [y], l1, g1, v', _, _, _, _, _, _, _, _, _, _, _, _, _, _, _, _, _, _, _, _, _, _, _, _, _, _, _, _, _, HE.out, by have := HFB.out; have := HLE.out; omega, by have := HFB.out; omega, HRD.out, rfl⟩, by rw [HRD.out.p.lenAt, HLA.out]; exact HLE.out.1⟩
end Go.Proofs.Ytbehbbmhkkidfaa

/-
  The parser's struct: what lies in it, the next token's kind, and taking one. No condition.
  The parser's joined and repeated. No condition.
-/
import Derived.Test.YtbehbbmhkkidfaaPtoks
namespace Go.Proofs.Ytbehbbmhkkidfaa
open Go.RowKit Go.Deep

theorem Turned.put {S : Nat → Prop} {a b : World} (h : Turned S a b) {k : Nat} (hk : S k) (i : Nat) (v : Value) : Turned S a (b.setCell ⟨k, i, none⟩ v) := by
  refine ⟨?_, ?_, ?_, ?_, fun j hj hn => ?_⟩
  · have := h.os; simpa [World.setCell] using this
  · have := h.tape; simpa [World.setCell] using this
  · have := h.output; simpa [World.setCell] using this
  · have := h.size; simpa [World.setCell] using this
  · rw [← h.block j hj hn]
    have hne : k ≠ j := fun e => hn (e ▸ hk)
    simp only [World.setCell]
    rw [Array.getElem?_modify, if_neg hne]
theorem Turned.wider {S T : Nat → Prop} {a b : World} (h : Turned S a b) (hT : ∀ k, k < a.heap.size → S k → T k) : Turned T a b :=
  ⟨h.os, h.tape, h.output, h.size, fun k hk hn => h.block k hk fun hs => hn (hT k hk hs)⟩
theorem Turned.frozen {S : Nat → Prop} {a b : World} (h : Turned S a b) {p : Addr} (hp : p.block < a.heap.size) (hn : ¬ S p.block) : b.frozen? p = a.frozen? p := by
  simp only [World.frozen?, h.block p.block hp hn]
theorem Turned.then_below {S : Nat → Prop} {a b c : World} (h : Turned S a b) (k : Below a.heap.size b c) : Turned S a c :=
  ⟨k.os.trans h.os, k.tape.trans h.tape, k.output.trans h.output, Nat.le_trans h.size k.size, fun i hi hn => (k.block i hi).trans (h.block i hi hn)⟩
/-- The parser in memory: the tokens that are left, and how many groups are open. -/
def ParsAt (w : World) (pb : Nat) (ts : List Tok) (g : Nat) : Prop := ∃ A c,
  (w.cell? ⟨pb, 0, none⟩ = some (.slice A ts.length c) ∧ w.cell? ⟨pb, 1, none⟩ = some (.int .i64 (g : Int))) ∧ (w.frozen? ⟨pb, 0, none⟩ = false ∧ w.frozen? ⟨pb, 1, none⟩ = false) ∧ ts.length ≤ c ∧ RawOff (pb ≤ ·) w A (tsV ts)
theorem ParsAt.lt {w : World} {pb : Nat} {ts : List Tok} {g : Nat} (h : ParsAt w pb ts g) : pb < w.heap.size := by
  obtain ⟨A, c, ⟨h0, _⟩, _⟩ := h
  exact World.block_lt_of_cell? w ⟨pb, 0, none⟩ h0
theorem ParsAt.below {w w' : World} {pb : Nat} {ts : List Tok} {g : Nat} (h : ParsAt w pb ts g) (hb : Below w.heap.size w w') : ParsAt w' pb ts g := by
  have hl := h.lt
  obtain ⟨A, c, ⟨h0, h1⟩, ⟨f0, f1⟩, hc, hr⟩ := h
  refine ⟨A, c, ⟨?_, ?_⟩, ⟨?_, ?_⟩, hc, hr.turned (Turned.of_below hb)⟩
  all_goals first | (rw [hb.cell hl]; assumption) | (rw [hb.frozen hl]; assumption)
theorem ParsAt.turned {T : Nat → Prop} {w w' : World} {pb : Nat} {ts : List Tok} {g : Nat} (h : ParsAt w pb ts g) (ht : Turned T w w') (hT : ∀ k, T k → pb < k) : ParsAt w' pb ts g := by
  have hl := h.lt
  have hn : ¬ T pb := fun h => Nat.lt_irrefl _ (hT pb h)
  obtain ⟨A, c, ⟨h0, h1⟩, ⟨f0, f1⟩, hc, hr⟩ := h
  exact ⟨A, c, ⟨ht.cell h0 hn, ht.cell h1 hn⟩, ⟨by rw [ht.frozen hl hn]; exact f0, by rw [ht.frozen hl hn]; exact f1⟩, hc, hr.turned (ht.wider fun k _ h => Nat.le_of_lt (hT k h))⟩
set_option maxRecDepth 100000 in
theorem next_is {pb : Nat} {ts : List Tok} {g : Nat} {w : World} (h : ParsAt w pb ts g) : Calls Try.prog 17 #[.pointer (some ⟨pb, 0, none⟩)] w fun e w' => e = .returned (.int .i64 (headK ts)) ∧ w' = w := by
  obtain ⟨A, c, ⟨h0, h1⟩, ⟨f0, f1⟩, hc, hr⟩ := h
  match ts with
  | [] =>
    simp only [List.length_nil] at h0
    clear hr
    go_enter Try.func17, Try.ntmps17
    go_wp2_with fail
    exact bodyPost_ret (v := .int .i64 0) (by simp [results, Try.results17, go_sem]) rfl ⟨rfl, rfl⟩
  | t :: r =>
    obtain ⟨b, o, rfl, hk⟩ := hr.cell (i := 0) (v := .int .i64 t.kind) rfl
    have g0 : (((t :: r).length : Int) == 0) = false := by rw [beq_eq_false_iff_ne]; simp only [List.length_cons]; omega
    obtain ⟨n, hn⟩ : ∃ n, n = (t :: r).length := ⟨_, rfl⟩
    have hn0 : (0 : Int) < (n : Int) := by rw [hn]; simp only [List.length_cons]; omega
    rw [← hn] at h0 g0
    rw [Nat.add_zero] at hk
    clear hr hn hc
    go_enter Try.func17, Try.ntmps17
    go_wp2_with fail
    exact bodyPost_ret (v := .int .i64 t.kind) (by simp [results, Try.results17, go_sem]) rfl ⟨rfl, rfl⟩
theorem sliced_one {S : Nat → Prop} {w : World} {A : Option Addr} {t : Tok} {r : List Tok} {n c : Nat} (h : RawOff S w A (tsV (t :: r))) (hn : n = r.length + 1) (hc : n ≤ c) :
    ∃ B, sliced A 1 n c 7 = .slice B r.length (c - 1) ∧ RawOff S w B (tsV r) ∧ r.length ≤ c - 1 := by
  subst hn
  by_cases he : c = 1
  · have hr : r = [] := List.eq_nil_of_length_eq_zero (by omega)
    subst hr
    exact ⟨A, by unfold sliced; rw [if_pos he]; rfl, .inl rfl, Nat.zero_le _⟩
  · refine ⟨A.map (·.add 7), by unfold sliced; rw [if_neg he]; rfl, ?_, by omega⟩
    have := h.drop 7
    exact this
def headT : List Tok → Tok
  | [] => Tok.none
  | t :: _ => t
/-- What taking a token answers. -/
def TakeAns (w : World) (pb : Nat) (ts : List Tok) (g : Nat) (e : Ending) (w' : World) : Prop := e = .returned (headT ts).v ∧ ParsAt w' pb (ts.drop 1) g ∧ Turned (· = pb) w w'
set_option maxRecDepth 100000 in
theorem take_is {pb : Nat} {ts : List Tok} {g : Nat} {w : World} (h : ParsAt w pb ts g) : Calls Try.prog 22 #[.pointer (some ⟨pb, 0, none⟩)] w (TakeAns w pb ts g) := by
  have hl := h.lt
  have HP := Lib.hid h
  obtain ⟨A, c, ⟨h0, h1⟩, ⟨f0, f1⟩, hc, hr⟩ := h
  unfold TakeAns Tok.v
  match ts with
  | [] =>
    simp only [List.length_nil] at h0
    clear hr
    go_enter Try.func22, Try.ntmps22
    go_wp2_with fail
    refine bodyPost_ret (v := Tok.none.v) (by simp [results, Try.results22, go_sem, Tok.none, Tok.v, noS]) rfl ⟨rfl, ?_, ?_⟩
    · exact HP.out.below (bA w _)
    · exact Turned.of_below (bA w _)
  | t :: r =>
    obtain ⟨n, hn⟩ : ∃ n, n = (t :: r).length := ⟨_, rfl⟩
    have hn1 : n = r.length + 1 := hn
    obtain ⟨B, eB, hB, hBc⟩ := sliced_one hr hn1 (by rw [hn]; exact hc)
    have hoff := hr
    obtain ⟨b, o, rfl, hbn, hk⟩ : ∃ b o, A = some ⟨b, o, none⟩ ∧ b ≠ pb ∧ w.rangeAt b o (tsV (t :: r)) := by
      rcases hr with hr | ⟨b, o, e, hn, hr⟩
      · cases hr
      · exact ⟨b, o, e, fun h => hn (by rw [h]; exact Nat.le_refl _), hr⟩
    have m0 := hk 0 _ rfl
    have m1 := hk 1 _ rfl
    have m2 := hk 2 _ rfl
    have m3 := hk 3 _ rfl
    have m4 := hk 4 _ rfl
    have m5 := hk 5 _ rfl
    have m6 := hk 6 _ rfl
    have hbl : b < w.heap.size := World.block_lt_of_cell? w _ m0
    rw [Nat.add_zero] at m0
    have g0 : ((n : Int) == 0) = false := by rw [beq_eq_false_iff_ne]; omega
    have hn0 : (0 : Int) < (n : Int) := by omega
    rw [← hn] at h0
    have hcn : n ≤ c := by rw [hn]; exact hc
    have s1 : ∀ W, (Instr.slice 45 (.slice (some ⟨b, o, none⟩) n c) (some (.int .i64 1)) none none).run Try.prog W = .ok (.slice B r.length (c - 1)) W := fun W => by
      rw [run_slice_l (P := Try.prog) (w := W) 45 _ n c Try.underlying45 .i64 1 (by omega) (by omega), elem_tok.size, Result.andThen_ok]
      exact congrArg (fun v => Result.ok v W) eB
    have HK := Lib.hid (And.intro hBc hB)
    clear hr hn hc hoff hk hn1 eB hB hBc hcn
    go_enter Try.func22, Try.ntmps22
    go_wp2_with fail
    refine bodyPost_ret (v := t.v) (by simp [results, Try.results22, go_sem, Tok.v]) rfl ⟨rfl, ?_, ?_⟩
    · have hT := (Turned.refl (· = pb) w).put (k := pb) rfl 0 (.slice B r.length (c - 1))
      have h2 : ParsAt (w.setCell ⟨pb, 0, none⟩ (.slice B r.length (c - 1))) pb r g := ⟨B, c - 1, ⟨by simp [go_sem, h0], by simp [go_sem, h1]⟩, ⟨by simp [go_sem, f0], by simp [go_sem, f1]⟩, HK.out.1, HK.out.2.turned (hT.wider fun k _ h => h ▸ Nat.le_refl _)⟩
      exact (h2.below (bA _ _)).below (bA _ _)
    · exact (((Turned.refl (· = pb) w).put (k := pb) rfl 0 (.slice B r.length (c - 1))).trans (Turned.of_below (bA _ _)) (fun _ _ h => h)).trans (Turned.of_below (bA _ _)) (fun _ _ h => h)
end Go.Proofs.Ytbehbbmhkkidfaa

namespace Go.Proofs.Ytbehbbmhkkidfaa
open Go.RowKit Go.Deep

theorem NV.v_eq (x : NV) : x.v = .agg #[.int .i64 x.kind, .int .u64 (x.set 0), .int .u64 (x.set 1), .int .u64 (x.set 2), .int .u64 (x.set 3), .int .i64 x.lo, .int .i64 x.hi, .int .i64 x.num, .slice x.A x.n x.c] := rfl
/-- A function that makes a node out of nodes. -/
def MadeN (S : Nat → Prop) (t : PN) (w : World) (e : Ending) (w' : World) : Prop := ∃ y : NV, e = .returned y.v ∧ IsP S w' t y ∧ Below w.heap.size w w'
theorem off_nine {S : Nat → Prop} {w : World} {A : Option Addr} {x : NV} {r : List NV} (h : RawOff S w A (nsV (x :: r))) : ∃ b o, A = some ⟨b, o, none⟩ ∧ b < w.heap.size ∧
    (w.cell? ⟨b, o, none⟩ = some (.int .i64 x.kind) ∧ w.cell? ⟨b, o + 1, none⟩ = some (.int .u64 (x.set 0)) ∧ w.cell? ⟨b, o + 2, none⟩ = some (.int .u64 (x.set 1)) ∧ w.cell? ⟨b, o + 3, none⟩ = some (.int .u64 (x.set 2)) ∧ w.cell? ⟨b, o + 4, none⟩ = some (.int .u64 (x.set 3)) ∧ w.cell? ⟨b, o + 5, none⟩ = some (.int .i64 x.lo) ∧ w.cell? ⟨b, o + 6, none⟩ = some (.int .i64 x.hi) ∧ w.cell? ⟨b, o + 7, none⟩ = some (.int .i64 x.num) ∧ w.cell? ⟨b, o + 8, none⟩ = some (.slice x.A x.n x.c)) := by
  rcases h with h | ⟨b, o, e, _, hr⟩
  · cases h
  · exact ⟨b, o, e, World.block_lt_of_cell? w _ (hr 0 _ rfl), hr 0 _ rfl, hr 1 _ rfl, hr 2 _ rfl, hr 3 _ rfl, hr 4 _ rfl, hr 5 _ rfl, hr 6 _ rfl, hr 7 _ rfl, hr 8 _ rfl⟩
set_option maxRecDepth 100000 in
theorem joined_is {S : Nat → Prop} {w : World} (k : Int) {ts : List PN} {xs : List NV} {A : Option Addr} {c : Nat} (hA : AllP S w ts xs) (hc : ts.length ≤ c) (hr : RawOff S w A (nsV xs)) :
    Calls Try.prog 23 #[.int .i64 k, .slice A ts.length c] w (MadeN S (joinK k ts) w) := by
  by_cases h1 : ts.length = 1
  · obtain ⟨t, rfl⟩ := List.length_eq_one_iff.1 h1
    obtain ⟨x, rfl⟩ := List.length_eq_one_iff.1 (hA.1.trans h1)
    have hx := hA.2 0 t x rfl rfl
    obtain ⟨b, o, rfl, hbl, m0, m1, m2, m3, m4, m5, m6, m7, m8⟩ := off_nine hr
    have HX := Lib.hid hx
    clear hA hc hr hx h1
    simp only [List.length_cons, List.length_nil, Nat.zero_add]
    go_enter Try.func23, Try.ntmps23
    go_wp2_with fail
    refine bodyPost_ret (v := x.v) (by simp [results, Try.results23, go_sem, NV.v_eq]) rfl ⟨x, rfl, ?_, ?_⟩
    · exact HX.out.stays (bA w _)
    · exact bA w _
  · have g0 : ((ts.length : Int) == 1) = false := by rw [beq_eq_false_iff_ne]; omega
    have HE := Lib.hid (show joinK k ts = .mk k noS 0 0 0 ts by
      unfold joinK
      split
      · rename_i x
        exact absurd rfl h1
      · rfl)
    have HN := Lib.hid (hA.node hc hr k noS 0 0 0)
    obtain ⟨n, hn⟩ : ∃ n, n = ts.length := ⟨_, rfl⟩
    rw [← hn] at g0 HN ⊢
    clear hA hc hr h1 hn
    go_enter Try.func23, Try.ntmps23
    go_wp2_with fail
    refine bodyPost_ret (v := .agg #[.int .i64 k, .int .u64 0, .int .u64 0, .int .u64 0, .int .u64 0, .int .i64 0, .int .i64 0, .int .i64 0, .slice A n c]) (by simp [results, Try.results23, go_sem]) rfl ⟨⟨k, noS, 0, 0, 0, A, n, c⟩, rfl, ?_, ?_⟩
    · rw [HE.out]
      exact HN.out.stays (bA w _)
    · exact bA w _
/-- A node's box. -/
theorem box9 {W : World} {k : Nat} {v0 v1 v2 v3 v4 v5 v6 v7 v8 : Value} {T : TypeId} (h : W.heap[k]? = some (.cells #[v0, v1, v2, v3, v4, v5, v6, v7, v8] T)) :
    (W.cell? ⟨k, 0, none⟩ = some v0 ∧ W.cell? ⟨k, 1, none⟩ = some v1 ∧ W.cell? ⟨k, 2, none⟩ = some v2 ∧ W.cell? ⟨k, 3, none⟩ = some v3 ∧ W.cell? ⟨k, 4, none⟩ = some v4 ∧ W.cell? ⟨k, 5, none⟩ = some v5 ∧ W.cell? ⟨k, 6, none⟩ = some v6 ∧ W.cell? ⟨k, 7, none⟩ = some v7 ∧ W.cell? ⟨k, 8, none⟩ = some v8) ∧
    (W.frozen? ⟨k, 0, none⟩ = false ∧ W.frozen? ⟨k, 1, none⟩ = false ∧ W.frozen? ⟨k, 2, none⟩ = false ∧ W.frozen? ⟨k, 3, none⟩ = false ∧ W.frozen? ⟨k, 4, none⟩ = false ∧ W.frozen? ⟨k, 5, none⟩ = false ∧ W.frozen? ⟨k, 6, none⟩ = false ∧ W.frozen? ⟨k, 7, none⟩ = false ∧ W.frozen? ⟨k, 8, none⟩ = false) := by
  refine ⟨⟨?_, ?_, ?_, ?_, ?_, ?_, ?_, ?_, ?_⟩, ?_, ?_, ?_, ?_, ?_, ?_, ?_, ?_, ?_⟩
  all_goals first | simp [World.cell?, h] | simp [World.frozen?, h]
theorem new_obj (w : World) (o : Obj) : (w.alloc o).heap[w.heap.size]? = some o := heap_alloc_new w o
theorem old_obj {w : World} {k : Nat} {o : Obj} (h : w.heap[k]? = some o) (o' : Obj) : (w.alloc o').heap[k]? = some o := ((bA w o').block k (lt_of_some h)).trans h
theorem Turned.puts9 {S : Nat → Prop} {a b : World} (h : Turned S a b) {k : Nat} (hk : S k) (v0 v1 v2 v3 v4 v5 v6 v7 v8 : Value) : Turned S a (((((((((b.setCell ⟨k, 0, none⟩ v0).setCell ⟨k, 1, none⟩ v1).setCell ⟨k, 2, none⟩ v2).setCell ⟨k, 3, none⟩ v3).setCell ⟨k, 4, none⟩ v4).setCell ⟨k, 5, none⟩ v5).setCell ⟨k, 6, none⟩ v6).setCell ⟨k, 7, none⟩ v7).setCell ⟨k, 8, none⟩ v8) :=
  (((((((((h.put hk _ _).put hk _ _).put hk _ _).put hk _ _).put hk _ _).put hk _ _).put hk _ _).put hk _ _).put hk _ _)
/-- A new row of one node. -/
theorem row_one {S : Nat → Prop} {w : World} (x : NV) (hS : ∀ k, S k → k < w.heap.size) (T : TypeId) : RawOff S (w.alloc (.cells #[.int .i64 x.kind, .int .u64 (x.set 0), .int .u64 (x.set 1), .int .u64 (x.set 2), .int .u64 (x.set 3), .int .i64 x.lo, .int .i64 x.hi, .int .i64 x.num, .slice x.A x.n x.c] T)) (some ⟨w.heap.size, 0, none⟩) (nsV [x]) := by
  refine .inr ⟨w.heap.size, 0, rfl, fun h => by have := hS _ h; omega, fun j v hv => ?_⟩
  rw [Nat.zero_add]
  have hc : ∀ i : Nat, (w.alloc (.cells #[.int .i64 x.kind, .int .u64 (x.set 0), .int .u64 (x.set 1), .int .u64 (x.set 2), .int .u64 (x.set 3), .int .i64 x.lo, .int .i64 x.hi, .int .i64 x.num, .slice x.A x.n x.c] T)).cell? ⟨w.heap.size, i, none⟩ = x.cells[i]? := fun i => by
    simp [go_sem, NV.cells]
  rw [hc j]
  simpa [nsV] using hv
/-- What a function answers that takes tokens and makes a node. -/
def NodeAns (S : Nat → Prop) (pb : Nat) (x : PN × List Tok) (g : Nat) (w : World) (e : Ending) (w' : World) : Prop := ∃ z : NV, e = .returned z.v ∧ IsP S w' x.1 z ∧ ParsAt w' pb x.2 g ∧ Turned (· = pb) w w'
set_option maxRecDepth 100000 in
theorem repeated_is {S : Nat → Prop} {pb : Nat} {ts : List Tok} {g : Nat} {w : World} {t : PN} {y : NV} (hS : S pb) (hSw : ∀ k, S k → k < w.heap.size) (hy : IsP S w t y) (h : ParsAt w pb ts g) : Calls Try.prog 35 #[.pointer (some ⟨pb, 0, none⟩), y.v] w (NodeAns S pb (repP t ts) g w) := by
  have hl := h.lt
  have HP := Lib.hid h
  have HY := Lib.hid hy
  have HS := Lib.hid (And.intro hS hSw)
  rw [NV.v_eq]
  clear hS hSw
  by_cases hk : headK ts = 7
  · obtain ⟨u, r, rfl⟩ : ∃ u r, ts = u :: r := by
      cases ts with
      | nil => cases hk
      | cons u r => exact ⟨u, r, rfl⟩
    have hk7 : u.kind = 7 := hk
    have HR := Lib.hid (show repP t (u :: r) = (.mk 4 noS u.lo u.hi 0 [t], r) by simp only [repP]; rw [if_pos hk7])
    clear h hy hk7
    go_enter Try.func35, Try.ntmps35
    go_wp2_with fail
    go_at_call 17
    refine (next_is (HP.out.below ((bA w _).alloc (by simp) _))).mono ?_
    rintro e w1 ⟨rfl, rfl⟩
    rw [hk]
    go_wp2_with fail
    go_at_call 22
    refine (take_is (HP.out.below ((bA w _).alloc (by simp) _))).mono ?_
    rintro e w2 ⟨rfl, hP2, hT2⟩
    obtain ⟨⟨k0, k1, k2, k3, k4, k5, k6, k7, k8⟩, _⟩ := box9 (hT2.obj (old_obj (new_obj w _) _) (by omega))
    obtain ⟨⟨c0, c1, c2, c3, c4, c5, c6, c7, c8⟩, f0, f1, f2, f3, f4, f5, f6, f7, f8⟩ := box9 (hT2.obj (k := w.heap.size + 1) (by have := new_obj (w.alloc (.cells #[.int .i64 y.kind, .int .u64 (y.set 0), .int .u64 (y.set 1), .int .u64 (y.set 2), .int .u64 (y.set 3), .int .i64 y.lo, .int .i64 y.hi, .int .i64 y.num, .slice y.A y.n y.c] 30)) (.cells #[.int .i64 0, .int .u64 0, .int .u64 0, .int .u64 0, .int .u64 0, .int .i64 0, .int .i64 0, .int .i64 0, .slice none 0 0] 30); simpa using this) (by omega))
    have hz : w.heap.size + 2 ≤ w2.heap.size := by have := hT2.size; simpa using this
    have l0 : w.heap.size < w2.heap.size := by omega
    have l1 : w.heap.size + 1 < w2.heap.size := by omega
    have HT2 := Lib.hid (And.intro hP2 ((Turned.of_below (S := (· = pb)) ((bA w _).alloc (by simp) _)).trans hT2 (fun _ _ h => h)))
    clear hP2 hT2 hk
    rw [show (headT (u :: r)).v = .agg #[.int .i64 u.kind, .int .u64 (u.set 0), .int .u64 (u.set 1), .int .u64 (u.set 2), .int .u64 (u.set 3), .int .i64 u.lo, .int .i64 u.hi] from rfl]
    go_wp2_with fail
    refine bodyPost_ret (v := .agg #[.int .i64 4, .int .u64 0, .int .u64 0, .int .u64 0, .int .u64 0, .int .i64 u.lo, .int .i64 u.hi, .int .i64 0, .slice (some ⟨w2.heap.size + 1, 0, none⟩) 1 1]) (by simp [results, Try.results35, go_sem, c0, c1, c2, c3, c4, c5, c6, c7, c8, l0, l1]) rfl ?_
    clear c0 c1 c2 c3 c4 c5 c6 c7 c8 f0 f1 f2 f3 f4 f5 f6 f7 f8 k0 k1 k2 k3 k4 k5 k6 k7 k8
    have T3 := (Turned.refl (· = w.heap.size + 1) w2).puts9 (k := w.heap.size + 1) rfl (.int .i64 4) (.int .u64 0) (.int .u64 0) (.int .u64 0) (.int .u64 0) (.int .i64 u.lo) (.int .i64 u.hi) (.int .i64 0) (.slice (some ⟨w2.heap.size + 1, 0, none⟩) 1 1)
    obtain ⟨w3, hw3⟩ : ∃ w3, w3 = (((((((((w2.setCell ⟨w.heap.size + 1, 0, none⟩ (.int .i64 4)).setCell ⟨w.heap.size + 1, 1, none⟩ (.int .u64 0)).setCell ⟨w.heap.size + 1, 2, none⟩ (.int .u64 0)).setCell ⟨w.heap.size + 1, 3, none⟩ (.int .u64 0)).setCell ⟨w.heap.size + 1, 4, none⟩ (.int .u64 0)).setCell ⟨w.heap.size + 1, 5, none⟩ (.int .i64 u.lo)).setCell ⟨w.heap.size + 1, 6, none⟩ (.int .i64 u.hi)).setCell ⟨w.heap.size + 1, 7, none⟩ (.int .i64 0)).setCell ⟨w.heap.size + 1, 8, none⟩ (.slice (some ⟨w2.heap.size + 1, 0, none⟩) 1 1)) := ⟨_, rfl⟩
    have z3 : w3.heap.size = w2.heap.size := by rw [hw3]; simp
    rw [← hw3] at T3 ⊢
    clear hw3
    obtain ⟨o1, ho1⟩ : ∃ o1, o1 = Obj.cells #[.int .i64 u.kind, .int .u64 (u.set 0), .int .u64 (u.set 1), .int .u64 (u.set 2), .int .u64 (u.set 3), .int .i64 u.lo, .int .i64 u.hi] 60 := ⟨_, rfl⟩
    rw [← ho1]
    have hS2 : ∀ k, S k → k < (w3.alloc o1).heap.size := fun k hk => by
      have := HS.out.2 k hk
      rw [World.size_alloc]
      omega
    have hrow := row_one (S := S) (w := w3.alloc o1) y hS2 30
    rw [World.size_alloc, z3] at hrow
    have T4 := (T3.trans (Turned.of_below (bA _ o1)) (fun _ _ h => h)).trans (Turned.of_below (bA _ (.cells #[.int .i64 y.kind, .int .u64 (y.set 0), .int .u64 (y.set 1), .int .u64 (y.set 2), .int .u64 (y.set 3), .int .i64 y.lo, .int .i64 y.hi, .int .i64 y.num, .slice y.A y.n y.c] 30))) (fun _ _ h => h)
    have T5 : Turned (· = pb) w _ := HT2.out.2.trans (T4.wider (T := fun k => k = pb ∨ w.heap.size ≤ k) (fun k _ h => .inr (by rw [h]; omega))) (fun i hi h => by
      rcases h with h | h
      · exact h
      · omega)
    refine ⟨⟨4, noS, u.lo, u.hi, 0, some ⟨w2.heap.size + 1, 0, none⟩, 1, 1⟩, rfl, ?_, ?_, T5⟩
    · rw [HR.out]
      exact (AllP.one (HY.out.turned (T5.wider fun k _ h => h ▸ HS.out.1))).node (Nat.le_refl _) hrow 4 noS u.lo u.hi 0
    · rw [HR.out]
      exact HT2.out.1.turned T4 (fun k h => by rw [h]; omega)
  · have hq : (headK ts != 7) = true := by simpa using hk
    obtain ⟨q, hq2⟩ : ∃ q, q = headK ts := ⟨_, rfl⟩
    have HN := Lib.hid fun (W : World) (hW : Below w.heap.size w W) => next_is (HP.out.below hW)
    rw [← hq2] at hq HN
    have HR := Lib.hid (show repP t ts = (t, ts) by
      cases ts with
      | nil => rfl
      | cons u r => simp only [repP]; rw [if_neg (show ¬ u.kind = 7 from hk)])
    clear h hy hk hq2
    go_enter Try.func35, Try.ntmps35
    go_wp2_with fail
    go_at_call 17
    refine (HN.out _ ((bA w _).alloc (by simp) _)).mono ?_
    rintro e w1 ⟨rfl, rfl⟩
    go_wp2_with fail
    refine bodyPost_ret (v := y.v) (by simp [results, Try.results35, go_sem, NV.v_eq]) rfl ?_
    rw [HR.out]
    refine ⟨y, rfl, HY.out.stays ?_, HP.out.below ?_, Turned.of_below ?_⟩
    all_goals exact (bA w _).alloc (by simp) _
end Go.Proofs.Ytbehbbmhkkidfaa

/-
  AddressNeeds and AddressOpens, walked. No condition.
-/
import Derived.Test.YtaagadaamnolcaaAs3
namespace Go.Proofs.Ytaagadaamnolcaa
open Go.RowKit Go.Deep Go.Sort

/-- A command, two addresses, a look in their boxes. -/
theorem sel_same {f fl t tl n : Int} {nt la fi se fi' se' op : Bool} (h1 : (needF f t op).1 = true → fi = fi') (h2 : (needF f t op).2 = true → se = se') : selF f fl t tl n nt la fi se op = selF f fl t tl n nt la fi' se' op := by
  have ha : t = 0 ∨ t ≠ 0 := by omega
  have hk := kinds f
  have hk2 := kinds t
  revert h1 h2
  unfold selF inF needF holdsF endsF asksF
  rcases hk with ⟨h0, h1, h2, h3, h4⟩ | ⟨h0, h1, h2, h3, h4⟩ | ⟨h0, h1, h2, h3, h4⟩ | ⟨h0, h1, h2, h3, h4⟩ | ⟨h0, h1, h2, h3, h4⟩ | ⟨h0, h1, h2, h3, h4⟩ <;>
  rcases hk2 with ⟨g0, g1, g2, g3, g4⟩ | ⟨g0, g1, g2, g3, g4⟩ | ⟨g0, g1, g2, g3, g4⟩ | ⟨g0, g1, g2, g3, g4⟩ | ⟨g0, g1, g2, g3, g4⟩ | ⟨g0, g1, g2, g3, g4⟩ <;>
  rw [h0, h1, h2, h3, h4, g0, g1, g2, g3, g4] <;> cases op <;> simp [bne, g0] <;> intros <;> simp_all

/-- Cells in a block of their own. -/
def Bx (vs : List Value) (T : TypeId) (b : Nat) (W : World) : Prop := W.heap[b]? = some (.cells vs.toArray T (0, 0))
theorem Bx.stays {vs : List Value} {T : TypeId} {b : Nat} {W W' : World} (h : Bx vs T b W) (hb : Below W.heap.size W W') : Bx vs T b W' := Below.obj hb h (lt_of_some h)
theorem Bx.cell {vs : List Value} {T : TypeId} {b : Nat} {W : World} (h : Bx vs T b W) (j : Nat) (v : Value) (hv : vs[j]? = some v) : W.cell? ⟨b, j, none⟩ = some v := by
  rw [obj_cell h]
  simpa using hv
def twC (f fl t tl : Int) (nt : Bool) : List Value := [.int .i64 f, .int .i64 t, .int .i64 fl, .int .i64 tl, .bool nt]

set_option maxRecDepth 100000 in
set_option maxHeartbeats 8000000 in
theorem needs_any (f fl t tl n : Int) (nt la fi se op : Bool) (w : World) : Calls Try.prog 3 #[(.agg #[.int .i64 f, .int .i64 t, .int .i64 fl, .int .i64 tl, .bool nt]), .bool op, (.agg #[.int .i64 n, .bool la, .bool fi, .bool se])] w fun e w' => e = .returned (.bool true) ∧ Below w.heap.size w w' := by
  have HC := Lib.hid (command_is f fl t tl nt)
  have HN := Lib.hid (needs_is f fl t tl nt op)
  have HS := Lib.hid (selects_is f fl t tl n nt la fi se op)
  have HSN := Lib.hid fun fi' se' h1 h2 => sel_same (f := f) (fl := fl) (t := t) (tl := tl) (n := n) (nt := nt) (la := la) (fi := fi) (se := se) (fi' := fi') (se' := se') (op := op) h1 h2
  have HS2 := Lib.hid fun fi' se' => selects_is f fl t tl n nt la fi' se' op
  have HA := Lib.hid alive_is
  obtain ⟨p, q, hpq⟩ : ∃ p q, needF f t op = (p, q) := ⟨_, _, rfl⟩
  obtain ⟨s, r, hsr⟩ : ∃ s r, selF f fl t tl n nt la fi se op = (s, r) := ⟨_, _, rfl⟩
  rw [hpq] at HN HSN
  rw [hsr] at HS HSN
  unfold lkC at HS HS2
  clear hpq hsr
  go_enter Try.func3, Try.ntmps3
  go_wp2_with fail
  go_at_call 8
  with_reducible refine (HC.out _).mono ?_
  rintro e w1 ⟨rfl, hb1⟩
  obtain ⟨b, hb⟩ : ∃ b, b = w.heap.size := ⟨_, rfl⟩
  have H1 := Lib.hid (show Bx [.int .i64 n, .bool la, .bool fi, .bool se] 26 (b + 1) w1 by rw [hb]; exact Bx.stays (heap_alloc2_new w _ _) hb1)
  have HB1 := Lib.hid (show Below w.heap.size w w1 from ((bW w _).trans ((bW _ _).mono (by rw [World.size_alloc]; omega))).trans (hb1.mono (by rw [World.size_alloc, World.size_alloc]; omega)))
  rw [← hb]
  clear hb1 hb
  go_upto_region 2 with (first | (refine wpList_alloc_cm rfl rfl ?_; intro Z hZ; have HZ := Lib.hid hZ; clear hZ) | (refine wpList_put_cm rfl (.tmp 7) (.tmp 16) rfl (f := f) (fl := fl) (t := t) (tl := tl) (nt := nt) rfl rfl HZ.out ?_))
  obtain ⟨W, hW⟩ : ∃ W, W = w1.alloc (.cells (cmC f fl t tl nt).toArray 39) := ⟨_, rfl⟩
  obtain ⟨b2, hb2⟩ : ∃ b2, b2 = w1.heap.size := ⟨_, rfl⟩
  have H2 := Lib.hid (show B1 (cmC f fl t tl nt) b2 w W by rw [hb2, hW]; exact ⟨heap_alloc_new w1 _, HB1.out.alloc HB1.out.size _⟩)
  have L2 := Lib.hid (show Bx [.int .i64 n, .bool la, .bool fi, .bool se] 26 (b + 1) W by rw [hW]; exact H1.out.stays (bW w1 _))
  rw [← hW, ← hb2]
  clear hW hb2
  go_wp2_with (refine wpList_load_row rfl 39 (.tmp 7) rfl b2 rfl 39 _ (0, 0) _ H2.out.one Try.underlying39 rfl size_cmd ?_)
  go_at_call 9
  with_reducible refine (HN.out _).mono ?_
  rintro e w3 ⟨rfl, hb3⟩
  have H3 := Lib.hid (H2.out.stays hb3)
  have L3 := Lib.hid (L2.out.stays hb3)
  clear hb3
  have l0 := L3.out.cell 0 _ rfl
  have l1 := L3.out.cell 1 _ rfl
  have l2 := L3.out.cell 2 _ rfl
  have l3 := L3.out.cell 3 _ rfl
  cases p <;> cases q
  · go_upto_region 8 with fail
    have HY := Lib.hid (by have h := HS2.out (!fi) (!se); rw [← HSN.out (!fi) (!se) (fun h => by cases h) (fun h => by cases h)] at h; exact h : ∀ w, Calls Try.prog 10 #[(.agg (cmC f fl t tl nt).toArray), .bool op, .agg #[.int .i64 n, .bool la, .bool (!fi), .bool (!se)]] w fun e w' => e = .returned (.tuple #[.bool s, .bool r]) ∧ Below w.heap.size w w')
    obtain ⟨w4, hw4⟩ : ∃ w4, w4 = w3.alloc (.cells #[.int .i64 n, .bool la, .bool (!fi), .bool (!se)] 26) := ⟨_, rfl⟩
    obtain ⟨b4, hb4⟩ : ∃ b4, b4 = w3.heap.size := ⟨_, rfl⟩
    have H4 := Lib.hid (show B1 (cmC f fl t tl nt) b2 w w4 by rw [hw4]; exact H3.out.stays (bW _ _))
    have L4 := Lib.hid (show Bx [.int .i64 n, .bool la, .bool fi, .bool se] 26 (b + 1) w4 by rw [hw4]; exact L3.out.stays (bW _ _))
    have Y4 := Lib.hid (show Bx [.int .i64 n, .bool la, .bool (!fi), .bool (!se)] 26 b4 w4 by rw [hw4, hb4]; exact heap_alloc_new w3 _)
    rw [← hw4, ← hb4]
    clear hw4 hb4 l0 l1 l2 l3 HS2 HSN
    have l0 := L4.out.cell 0 _ rfl
    have l1 := L4.out.cell 1 _ rfl
    have l2 := L4.out.cell 2 _ rfl
    have l3 := L4.out.cell 3 _ rfl
    go_wp2_with (refine wpList_load_row rfl 39 (.tmp 7) rfl b2 rfl 39 _ (0, 0) _ H4.out.one Try.underlying39 rfl size_cmd ?_)
    go_at_call 10
    with_reducible refine (HS.out _).mono ?_
    rintro e w5 ⟨rfl, hb5⟩
    have H5 := Lib.hid (H4.out.stays hb5)
    have Y5 := Lib.hid (Y4.out.stays hb5)
    clear hb5 l0 l1 l2 l3
    have l0 := Y5.out.cell 0 _ rfl
    have l1 := Y5.out.cell 1 _ rfl
    have l2 := Y5.out.cell 2 _ rfl
    have l3 := Y5.out.cell 3 _ rfl
    go_wp2_with (refine wpList_load_row rfl 39 (.tmp 7) rfl b2 rfl 39 _ (0, 0) _ H5.out.one Try.underlying39 rfl size_cmd ?_)
    go_at_call 10
    with_reducible refine (HY.out _).mono ?_
    rintro e w6 ⟨rfl, hb6⟩
    have H6 := Lib.hid (H5.out.stays hb6)
    clear hb6 l0 l1 l2 l3
    have gs : (s == s) = true := beq_self_eq_true s
    have gr : (r == r) = true := beq_self_eq_true r
    go_wp2_with fail
    go_at_call 11
    with_reducible refine (HA.out _).mono ?_
    rintro e w7 ⟨rfl, hb7⟩
    have H7 := Lib.hid (H6.out.stays hb7)
    clear hb7
    go_wp2_with fail
    go_ret
    exact ⟨rfl, H7.out.bel⟩
  · go_upto_region 8 with fail
    have HY := Lib.hid (by have h := HS2.out (!fi) se; rw [← HSN.out (!fi) se (fun h => by cases h) (fun _ => rfl)] at h; exact h : ∀ w, Calls Try.prog 10 #[(.agg (cmC f fl t tl nt).toArray), .bool op, .agg #[.int .i64 n, .bool la, .bool (!fi), .bool se]] w fun e w' => e = .returned (.tuple #[.bool s, .bool r]) ∧ Below w.heap.size w w')
    obtain ⟨w4, hw4⟩ : ∃ w4, w4 = w3.alloc (.cells #[.int .i64 n, .bool la, .bool (!fi), .bool se] 26) := ⟨_, rfl⟩
    obtain ⟨b4, hb4⟩ : ∃ b4, b4 = w3.heap.size := ⟨_, rfl⟩
    have H4 := Lib.hid (show B1 (cmC f fl t tl nt) b2 w w4 by rw [hw4]; exact H3.out.stays (bW _ _))
    have L4 := Lib.hid (show Bx [.int .i64 n, .bool la, .bool fi, .bool se] 26 (b + 1) w4 by rw [hw4]; exact L3.out.stays (bW _ _))
    have Y4 := Lib.hid (show Bx [.int .i64 n, .bool la, .bool (!fi), .bool se] 26 b4 w4 by rw [hw4, hb4]; exact heap_alloc_new w3 _)
    rw [← hw4, ← hb4]
    clear hw4 hb4 l0 l1 l2 l3 HS2 HSN
    have l0 := L4.out.cell 0 _ rfl
    have l1 := L4.out.cell 1 _ rfl
    have l2 := L4.out.cell 2 _ rfl
    have l3 := L4.out.cell 3 _ rfl
    go_wp2_with (refine wpList_load_row rfl 39 (.tmp 7) rfl b2 rfl 39 _ (0, 0) _ H4.out.one Try.underlying39 rfl size_cmd ?_)
    go_at_call 10
    with_reducible refine (HS.out _).mono ?_
    rintro e w5 ⟨rfl, hb5⟩
    have H5 := Lib.hid (H4.out.stays hb5)
    have Y5 := Lib.hid (Y4.out.stays hb5)
    clear hb5 l0 l1 l2 l3
    have l0 := Y5.out.cell 0 _ rfl
    have l1 := Y5.out.cell 1 _ rfl
    have l2 := Y5.out.cell 2 _ rfl
    have l3 := Y5.out.cell 3 _ rfl
    go_wp2_with (refine wpList_load_row rfl 39 (.tmp 7) rfl b2 rfl 39 _ (0, 0) _ H5.out.one Try.underlying39 rfl size_cmd ?_)
    go_at_call 10
    with_reducible refine (HY.out _).mono ?_
    rintro e w6 ⟨rfl, hb6⟩
    have H6 := Lib.hid (H5.out.stays hb6)
    clear hb6 l0 l1 l2 l3
    have gs : (s == s) = true := beq_self_eq_true s
    have gr : (r == r) = true := beq_self_eq_true r
    go_wp2_with fail
    go_at_call 11
    with_reducible refine (HA.out _).mono ?_
    rintro e w7 ⟨rfl, hb7⟩
    have H7 := Lib.hid (H6.out.stays hb7)
    clear hb7
    go_wp2_with fail
    go_ret
    exact ⟨rfl, H7.out.bel⟩
  · go_upto_region 8 with fail
    have HY := Lib.hid (by have h := HS2.out fi (!se); rw [← HSN.out fi (!se) (fun _ => rfl) (fun h => by cases h)] at h; exact h : ∀ w, Calls Try.prog 10 #[(.agg (cmC f fl t tl nt).toArray), .bool op, .agg #[.int .i64 n, .bool la, .bool fi, .bool (!se)]] w fun e w' => e = .returned (.tuple #[.bool s, .bool r]) ∧ Below w.heap.size w w')
    obtain ⟨w4, hw4⟩ : ∃ w4, w4 = w3.alloc (.cells #[.int .i64 n, .bool la, .bool fi, .bool (!se)] 26) := ⟨_, rfl⟩
    obtain ⟨b4, hb4⟩ : ∃ b4, b4 = w3.heap.size := ⟨_, rfl⟩
    have H4 := Lib.hid (show B1 (cmC f fl t tl nt) b2 w w4 by rw [hw4]; exact H3.out.stays (bW _ _))
    have L4 := Lib.hid (show Bx [.int .i64 n, .bool la, .bool fi, .bool se] 26 (b + 1) w4 by rw [hw4]; exact L3.out.stays (bW _ _))
    have Y4 := Lib.hid (show Bx [.int .i64 n, .bool la, .bool fi, .bool (!se)] 26 b4 w4 by rw [hw4, hb4]; exact heap_alloc_new w3 _)
    rw [← hw4, ← hb4]
    clear hw4 hb4 l0 l1 l2 l3 HS2 HSN
    have l0 := L4.out.cell 0 _ rfl
    have l1 := L4.out.cell 1 _ rfl
    have l2 := L4.out.cell 2 _ rfl
    have l3 := L4.out.cell 3 _ rfl
    go_wp2_with (refine wpList_load_row rfl 39 (.tmp 7) rfl b2 rfl 39 _ (0, 0) _ H4.out.one Try.underlying39 rfl size_cmd ?_)
    go_at_call 10
    with_reducible refine (HS.out _).mono ?_
    rintro e w5 ⟨rfl, hb5⟩
    have H5 := Lib.hid (H4.out.stays hb5)
    have Y5 := Lib.hid (Y4.out.stays hb5)
    clear hb5 l0 l1 l2 l3
    have l0 := Y5.out.cell 0 _ rfl
    have l1 := Y5.out.cell 1 _ rfl
    have l2 := Y5.out.cell 2 _ rfl
    have l3 := Y5.out.cell 3 _ rfl
    go_wp2_with (refine wpList_load_row rfl 39 (.tmp 7) rfl b2 rfl 39 _ (0, 0) _ H5.out.one Try.underlying39 rfl size_cmd ?_)
    go_at_call 10
    with_reducible refine (HY.out _).mono ?_
    rintro e w6 ⟨rfl, hb6⟩
    have H6 := Lib.hid (H5.out.stays hb6)
    clear hb6 l0 l1 l2 l3
    have gs : (s == s) = true := beq_self_eq_true s
    have gr : (r == r) = true := beq_self_eq_true r
    go_wp2_with fail
    go_at_call 11
    with_reducible refine (HA.out _).mono ?_
    rintro e w7 ⟨rfl, hb7⟩
    have H7 := Lib.hid (H6.out.stays hb7)
    clear hb7
    go_wp2_with fail
    go_ret
    exact ⟨rfl, H7.out.bel⟩
  · go_upto_region 8 with fail
    have HY := Lib.hid (by have h := HS2.out fi se; rw [← HSN.out fi se (fun _ => rfl) (fun _ => rfl)] at h; exact h : ∀ w, Calls Try.prog 10 #[(.agg (cmC f fl t tl nt).toArray), .bool op, .agg #[.int .i64 n, .bool la, .bool fi, .bool se]] w fun e w' => e = .returned (.tuple #[.bool s, .bool r]) ∧ Below w.heap.size w w')
    obtain ⟨w4, hw4⟩ : ∃ w4, w4 = w3.alloc (.cells #[.int .i64 n, .bool la, .bool fi, .bool se] 26) := ⟨_, rfl⟩
    obtain ⟨b4, hb4⟩ : ∃ b4, b4 = w3.heap.size := ⟨_, rfl⟩
    have H4 := Lib.hid (show B1 (cmC f fl t tl nt) b2 w w4 by rw [hw4]; exact H3.out.stays (bW _ _))
    have L4 := Lib.hid (show Bx [.int .i64 n, .bool la, .bool fi, .bool se] 26 (b + 1) w4 by rw [hw4]; exact L3.out.stays (bW _ _))
    have Y4 := Lib.hid (show Bx [.int .i64 n, .bool la, .bool fi, .bool se] 26 b4 w4 by rw [hw4, hb4]; exact heap_alloc_new w3 _)
    rw [← hw4, ← hb4]
    clear hw4 hb4 l0 l1 l2 l3 HS2 HSN
    have l0 := L4.out.cell 0 _ rfl
    have l1 := L4.out.cell 1 _ rfl
    have l2 := L4.out.cell 2 _ rfl
    have l3 := L4.out.cell 3 _ rfl
    go_wp2_with (refine wpList_load_row rfl 39 (.tmp 7) rfl b2 rfl 39 _ (0, 0) _ H4.out.one Try.underlying39 rfl size_cmd ?_)
    go_at_call 10
    with_reducible refine (HS.out _).mono ?_
    rintro e w5 ⟨rfl, hb5⟩
    have H5 := Lib.hid (H4.out.stays hb5)
    have Y5 := Lib.hid (Y4.out.stays hb5)
    clear hb5 l0 l1 l2 l3
    have l0 := Y5.out.cell 0 _ rfl
    have l1 := Y5.out.cell 1 _ rfl
    have l2 := Y5.out.cell 2 _ rfl
    have l3 := Y5.out.cell 3 _ rfl
    go_wp2_with (refine wpList_load_row rfl 39 (.tmp 7) rfl b2 rfl 39 _ (0, 0) _ H5.out.one Try.underlying39 rfl size_cmd ?_)
    go_at_call 10
    with_reducible refine (HY.out _).mono ?_
    rintro e w6 ⟨rfl, hb6⟩
    have H6 := Lib.hid (H5.out.stays hb6)
    clear hb6 l0 l1 l2 l3
    have gs : (s == s) = true := beq_self_eq_true s
    have gr : (r == r) = true := beq_self_eq_true r
    go_wp2_with fail
    go_at_call 11
    with_reducible refine (HA.out _).mono ?_
    rintro e w7 ⟨rfl, hb7⟩
    have H7 := Lib.hid (H6.out.stays hb7)
    clear hb7
    go_wp2_with fail
    go_ret
    exact ⟨rfl, H7.out.bel⟩

theorem in_facts (f fl t tl n : Int) (la fi se op : Bool) : (t = 0 → (inF f fl t tl n la fi se op).2 = false) ∧ (t ≠ 0 → op = true → (inF f fl t tl n la fi se op).1 = true) ∧ (t ≠ 0 → (inF f fl t tl n la fi se op).2 = true → (inF f fl t tl n la fi se op).1 = true) := by
  unfold inF
  by_cases h : t = 0
  · simp [h]
  · have g : (t == 0) = false := by rw [beq_eq_false_iff_ne]; exact h
    rw [g]
    cases op <;> cases holdsF f fl n la fi <;> simp [h]
theorem bne_ne (i nt : Bool) : ((i != nt) == (i != !nt)) = false ∧ ((i != nt) != nt) = i ∧ ((i != nt) == nt) = !i := by cases i <;> cases nt <;> exact ⟨rfl, rfl, rfl⟩

set_option maxRecDepth 100000 in
set_option maxHeartbeats 8000000 in
theorem opens_any (f fl t tl n : Int) (nt la fi se op : Bool) (w : World) : Calls Try.prog 5 #[(.agg #[.int .i64 f, .int .i64 t, .int .i64 fl, .int .i64 tl, .bool nt]), .bool op, (.agg #[.int .i64 n, .bool la, .bool fi, .bool se])] w fun e w' => e = .returned (.bool true) ∧ Below w.heap.size w w' := by
  have HC := Lib.hid (command_is f fl t tl nt)
  have HC2 := Lib.hid (command_is f fl t tl (!nt))
  have HS := Lib.hid (selects_is f fl t tl n nt la fi se op)
  have HS2 := Lib.hid (selects_is f fl t tl n (!nt) la fi se op)
  have HA := Lib.hid alive_is
  have HF := in_facts f fl t tl n la fi se op
  unfold selF at HS HS2
  obtain ⟨i, r, hir⟩ : ∃ i r, inF f fl t tl n la fi se op = (i, r) := ⟨_, _, rfl⟩
  rw [hir] at HS HS2 HF
  obtain ⟨g1, g2, g3⟩ := bne_ne i nt
  obtain ⟨a, ha⟩ : ∃ a, a = (i != nt) := ⟨_, rfl⟩
  obtain ⟨d, hd⟩ : ∃ d, d = (i != !nt) := ⟨_, rfl⟩
  simp only at HS HS2 HF
  rw [← ha] at HS g1 g2 g3
  rw [← hd] at HS2 g1
  unfold lkC at HS HS2
  have HFh := Lib.hid HF
  have hr2 : (r != r) = false := by cases r <;> rfl
  clear hir ha hd HF
  go_enter Try.func5, Try.ntmps5
  go_wp2_with fail
  go_at_call 8
  with_reducible refine (HC.out _).mono ?_
  rintro e w1 ⟨rfl, hb1⟩
  obtain ⟨b, hb⟩ : ∃ b, b = w.heap.size := ⟨_, rfl⟩
  have T1 := Lib.hid (show Bx [.int .i64 f, .int .i64 t, .int .i64 fl, .int .i64 tl, .bool nt] 24 b w1 by rw [hb]; exact Bx.stays (heap_alloc2_old w _ _) hb1)
  have L1 := Lib.hid (show Bx [.int .i64 n, .bool la, .bool fi, .bool se] 26 (b + 1) w1 by rw [hb]; exact Bx.stays (heap_alloc2_new w _ _) hb1)
  have HB1 := Lib.hid (show Below w.heap.size w w1 from ((bW w _).trans ((bW _ _).mono (by rw [World.size_alloc]; omega))).trans (hb1.mono (by rw [World.size_alloc, World.size_alloc]; omega)))
  rw [← hb]
  clear hb1 hb
  go_upto_region 2 with (first | (refine wpList_alloc_cm rfl rfl ?_; intro Z hZ; have HZ := Lib.hid hZ; clear hZ) | (refine wpList_put_cm rfl (.tmp 7) (.tmp 15) rfl (f := f) (fl := fl) (t := t) (tl := tl) (nt := nt) rfl rfl HZ.out ?_))
  obtain ⟨W, hW⟩ : ∃ W, W = w1.alloc (.cells (cmC f fl t tl nt).toArray 39) := ⟨_, rfl⟩
  obtain ⟨b2, hb2⟩ : ∃ b2, b2 = w1.heap.size := ⟨_, rfl⟩
  have H2 := Lib.hid (show B1 (cmC f fl t tl nt) b2 w W by rw [hb2, hW]; exact ⟨heap_alloc_new w1 _, HB1.out.alloc HB1.out.size _⟩)
  have L2 := Lib.hid (show Bx [.int .i64 n, .bool la, .bool fi, .bool se] 26 (b + 1) W by rw [hW]; exact L1.out.stays (bW w1 _))
  have T2 := Lib.hid (show Bx [.int .i64 f, .int .i64 t, .int .i64 fl, .int .i64 tl, .bool nt] 24 b W by rw [hW]; exact T1.out.stays (bW w1 _))
  rw [← hW, ← hb2]
  clear hW hb2
  have t0 := T2.out.cell 0 _ rfl
  have t1 := T2.out.cell 1 _ rfl
  have t2 := T2.out.cell 2 _ rfl
  have t3 := T2.out.cell 3 _ rfl
  have t4 := T2.out.cell 4 _ rfl
  have t5 := (T2.out.stays (bW W (.cells #[.int .i64 f, .int .i64 t, .int .i64 fl, .int .i64 tl, .bool nt] 24))).cell 4 _ rfl
  go_upto_region 4 with fail
  obtain ⟨w4, hw4⟩ : ∃ w4, w4 = W.alloc (.cells #[.int .i64 f, .int .i64 t, .int .i64 fl, .int .i64 tl, .bool !nt] 24) := ⟨_, rfl⟩
  obtain ⟨b4, hb4⟩ : ∃ b4, b4 = W.heap.size := ⟨_, rfl⟩
  have H4 := Lib.hid (show B1 (cmC f fl t tl nt) b2 w w4 by rw [hw4]; exact H2.out.stays (bW _ _))
  have L4 := Lib.hid (show Bx [.int .i64 n, .bool la, .bool fi, .bool se] 26 (b + 1) w4 by rw [hw4]; exact L2.out.stays (bW _ _))
  have T4 := Lib.hid (show Bx [.int .i64 f, .int .i64 t, .int .i64 fl, .int .i64 tl, .bool nt] 24 b w4 by rw [hw4]; exact T2.out.stays (bW _ _))
  have U4 := Lib.hid (show Bx [.int .i64 f, .int .i64 t, .int .i64 fl, .int .i64 tl, .bool !nt] 24 b4 w4 by rw [hw4, hb4]; exact heap_alloc_new W _)
  rw [← hw4, ← hb4]
  clear hw4 hb4 t0 t1 t2 t3 t4 t5
  have l0 := L4.out.cell 0 _ rfl
  have l1 := L4.out.cell 1 _ rfl
  have l2 := L4.out.cell 2 _ rfl
  have l3 := L4.out.cell 3 _ rfl
  go_wp2_with (refine wpList_load_row rfl 39 (.tmp 7) rfl b2 rfl 39 _ (0, 0) _ H4.out.one Try.underlying39 rfl size_cmd ?_)
  go_at_call 10
  with_reducible refine (HS.out _).mono ?_
  rintro e w5 ⟨rfl, hb5⟩
  have HB5 := Lib.hid (H4.out.stays hb5).bel
  have L5 := Lib.hid (L4.out.stays hb5)
  have T5 := Lib.hid (T4.out.stays hb5)
  have U5 := Lib.hid (U4.out.stays hb5)
  clear hb5 l0 l1 l2 l3
  go_upto_region 5 with fail
  have l0 := cell_regrown (L5.out.cell 0 _ rfl)
  have l1 := cell_regrown (L5.out.cell 1 _ rfl)
  have l2 := cell_regrown (L5.out.cell 2 _ rfl)
  have l3 := cell_regrown (L5.out.cell 3 _ rfl)
  have u0 := cell_regrown (U5.out.cell 0 _ rfl)
  have u1 := cell_regrown (U5.out.cell 1 _ rfl)
  have u2 := cell_regrown (U5.out.cell 2 _ rfl)
  have u3 := cell_regrown (U5.out.cell 3 _ rfl)
  have u4 := cell_regrown (U5.out.cell 4 _ rfl)
  have R1 := Lib.hid (show ∀ (k : Nat) (os : Array Obj), Calls Try.prog 8 #[.agg #[.int .i64 f, .int .i64 t, .int .i64 fl, .int .i64 tl, .bool !nt]] (grow (redrawn w5 k) os) fun e w'' => e = .returned (.agg (cmC f fl t tl (!nt)).toArray) ∧ ∃ p : Regrown, w'' = grow (redrawn w5 p.d) p.os from fun k os => Calls.regrown_of (HC2.out _))
  have R2 := Lib.hid (show ∀ (k : Nat) (os : Array Obj), Calls Try.prog 10 #[.agg (cmC f fl t tl (!nt)).toArray, .bool op, .agg #[.int .i64 n, .bool la, .bool fi, .bool se]] (grow (redrawn w5 k) os) fun e w'' => e = .returned (.tuple #[.bool d, .bool r]) ∧ ∃ p : Regrown, w'' = grow (redrawn w5 p.d) p.os from fun k os => Calls.regrown_of (HS2.out _))
  refine wp_region_quiet_below (by kernel_rfl) (by kernel_rfl) ?_
  repeat (go_big_quiet_step (first | (with_reducible exact R1.out _ _) | (with_reducible exact R2.out _ _)))
  refine wpQuiet_nil ?_
  rintro w6 ⟨⟨dq, osq⟩, rfl⟩
  have hb6 := below_regrown w5 dq osq
  have HB6 := Lib.hid (HB5.out.trans (hb6.mono HB5.out.size))
  have T6 := Lib.hid (T5.out.stays hb6)
  clear hb6
  generalize grow (redrawn w5 dq) osq = w6 at HB6 T6 ⊢
  clear l0 l1 l2 l3 u0 u1 u2 u3 u4 R1 R2
  have t1 := T6.out.cell 1 _ rfl
  have t4 := T6.out.cell 4 _ rfl
  cases hz : (t == 0) with
  | true =>
    obtain rfl : r = false := HFh.out.1 (beq_iff_eq.1 hz)
    clear HFh
    go_wp2_with fail
    go_at_call 11
    with_reducible refine (HA.out _).mono ?_
    rintro e w7 ⟨rfl, hb7⟩
    have HB7 := Lib.hid (HB6.out.trans (hb7.mono HB6.out.size))
    clear hb7
    go_wp2_with fail
    go_ret
    exact ⟨rfl, HB7.out⟩
  | false =>
    have F2 := HFh.out.2.1 (beq_eq_false_iff_ne.1 hz)
    have F3 := HFh.out.2.2 (beq_eq_false_iff_ne.1 hz)
    clear HFh
    cases i with
    | true =>
      clear F2 F3
      cases op <;> cases r
      all_goals
        go_wp2_with fail
        go_at_call 11
        with_reducible refine (HA.out _).mono ?_
        rintro e w7 ⟨rfl, hb7⟩
        have HB7 := Lib.hid (HB6.out.trans (hb7.mono HB6.out.size))
        clear hb7
        go_wp2_with fail
        go_ret
        exact ⟨rfl, HB7.out⟩
    | false =>
      cases op with
      | true => exact absurd (F2 rfl) (by decide)
      | false =>
        cases r with
        | true => exact absurd (F3 rfl) (by decide)
        | false =>
          clear F2 F3
          go_wp2_with fail
          go_at_call 11
          with_reducible refine (HA.out _).mono ?_
          rintro e w7 ⟨rfl, hb7⟩
          have HB7 := Lib.hid (HB6.out.trans (hb7.mono HB6.out.size))
          clear hb7
          go_wp2_with fail
          go_ret
          exact ⟨rfl, HB7.out⟩

end Go.Proofs.Ytaagadaamnolcaa

/-
  Package address: what is selected, what is needed; a command of two addresses; the live question. No condition.
-/
import Derived.Test.YtaagadaamnolcaaAs1
import Derived.Deep.Cut
namespace Go.Proofs.Ytaagadaamnolcaa
open Go.RowKit Go.Deep

/-- An address, a command of two addresses, a look: their cells. -/
def adC (k l : Int) : List Value := (.int .i64 k :: .int .i64 l :: .int .i64 0 :: .int .u64 0 :: .int .u64 0 :: .int .u64 0 :: .int .u64 0 :: .int .i64 0 :: .int .i64 0 :: .int .i64 0 :: .slice none 0 0 :: [])
def cmC (f fl t tl : Int) (nt : Bool) : List Value := (.complex .f64 0 0 :: .int .u8 112 :: .int .i64 f :: .int .i64 fl :: .int .i64 0 :: .int .u64 0 :: .int .u64 0 :: .int .u64 0 :: .int .u64 0 :: .int .i64 0 :: .int .i64 0 :: .int .i64 0 :: .slice none 0 0 :: .int .i64 t :: .int .i64 tl :: .int .i64 0 :: .int .u64 0 :: .int .u64 0 :: .int .u64 0 :: .int .u64 0 :: .int .i64 0 :: .int .i64 0 :: .int .i64 0 :: .slice none 0 0 :: .bool nt :: .string ⟨#[]⟩ :: .string ⟨#[]⟩ :: .int .i64 0 :: .int .u64 0 :: .int .u64 0 :: .int .u64 0 :: .int .u64 0 :: .int .i64 0 :: .int .i64 0 :: .int .i64 0 :: .slice none 0 0 :: .bool false :: .slice none 0 0 :: .bool false :: .bool false :: .int .i64 0 :: .string ⟨#[]⟩ :: [])
def lkC (n : Int) (la fi se : Bool) : List Value := .int .i64 n :: .bool la :: .bool fi :: .bool se :: []
theorem len_cm (f fl t tl : Int) (nt : Bool) : (cmC f fl t tl nt).length = 42 := rfl
theorem oneCell_cm (f fl t tl : Int) (nt : Bool) : ∀ v ∈ cmC f fl t tl nt, v.oneCell' = true := by
  have h : (cmC f fl t tl nt).all (·.oneCell') = true := rfl
  exact fun v hv => List.all_eq_true.1 h v hv
theorem size_cmd : (Try.prog.info? 39).map (·.size) = some 42 := by kernel_rfl
theorem size_adr : (Try.prog.info? 36).map (·.size) = some 11 := by kernel_rfl
theorem size_look : (Try.prog.info? 26).map (·.size) = some 4 := by kernel_rfl
theorem holds_c (k l n : Int) (la fi se : Bool) (w : World) : Calls Try.prog 15 #[.agg (adC k l).toArray, (.agg (lkC n la fi se).toArray)] w fun e w' => e = .returned (.bool (holdsF k l n la fi)) ∧ Below w.heap.size w w' := holds_is k l n la fi se w
theorem ends_c (k l n : Int) (la fi se op : Bool) (w : World) : Calls Try.prog 16 #[.agg (adC k l).toArray, .bool op, (.agg (lkC n la fi se).toArray)] w fun e w' => e = .returned (.bool (endsF k l n la se op)) ∧ Below w.heap.size w w' := ends_is k l n la fi se op w
theorem asks_c (k l : Int) (w : World) : Calls Try.prog 13 #[.agg (adC k l).toArray] w fun e w' => e = .returned (.bool (asksF k)) ∧ Below w.heap.size w w' := asks_is k l w
theorem hasRange_c (f fl t tl : Int) (nt : Bool) (w : World) : Calls Try.prog 12 #[(.agg (cmC f fl t tl nt).toArray)] w fun e w' => e = .returned (.bool (t != 0)) ∧ Below w.heap.size w w' := hasRange_is f fl t tl nt w
/-- A parameter's box, for the walk. -/
theorem wpList_bx {ops : Array Oper} {rest : List Oper} {o : Oper} {a : Act} {w : World} {Q : Exit → Act → World → Prop} (hg : o.guard = none) (t : TypeId) (x : Operand) (ho : o.op = .box t x) (d : Option Tmp) (hd : o.dst = d) (N : Nat) (hN : w.heap.size = N) (cs : Array Value) (hx : (a.eval x).cells = cs)
    (h : wpList Try.prog ops Q rest (a.put d (.pointer (some ⟨N, 0, none⟩))) (w.alloc (.cells cs t))) : wpList Try.prog ops Q (o :: rest) a w := by
  subst hd hN hx
  refine wpList_plain hg fun K hK => ?_
  unfold Oper.wp execOp
  simp only [ho, Sem.run_bind, Instr.box, newVar, newRow, run_newObj_alloc, Sem.run_pure, Result.andThen_ok]
  exact hK _ _ h
/-- Guarded loads that are wanted, for the walk. -/
theorem wpList_load_gm {ops : Array Oper} {rest : List Oper} {o : Oper} {a : Act} {w : World} {Q : Exit → Act → World → Prop} (hw : Region.wanted o (yielded ops a.tmps) = true) (ty : TypeId) (x : Operand) (ho : o.op = .load ty x) (b f : Nat) (hx : a.eval x = .pointer (some ⟨b, f, none⟩)) (cs : List Value) (d : TypeDesc) (hc : w.rangeAt b f cs)
    (hu : Try.prog.underlying ty = some d) (hd : d.isRow = true) (hi : (Try.prog.info? ty).map (·.size) = some cs.length) (h : wpList Try.prog ops Q rest (a.put o.dst (.agg cs.toArray)) w) : wpList Try.prog ops Q (o :: rest) a w := by
  have hr : (execOp a.eval o).run Try.prog w = .ok (.value (.agg cs.toArray)) w := by
    unfold execOp
    simp only [ho, hx, Instr.loadAt, Instr.sureAddr, Sem.run_bind, Sem.run_pure, Result.andThen_ok, run_loadVar_mid w b f ty cs d hc hu hd hi]
  refine wpList_step fun K hK => ?_
  rw [hw]
  show o.upon _ a K Q ((execOp a.eval o).run Try.prog w)
  rw [hr]
  exact hK _ _ h
/-- A command and a look in their boxes. -/
structure BxJ (cs ls : List Value) (b : Nat) (w W : World) : Prop where
  one : W.heap[b]? = some (.cells cs.toArray 39 (0, 0))
  two : W.heap[b + 1]? = some (.cells ls.toArray 26 (0, 0))
  bel : Below w.heap.size w W
theorem BxJ.stays {cs ls : List Value} {b : Nat} {w W W' : World} (h : BxJ cs ls b w W) (hb : Below W.heap.size W W') : BxJ cs ls b w W' :=
  ⟨Below.obj hb h.one (lt_of_some h.one), Below.obj hb h.two (lt_of_some h.two), h.bel.trans (hb.mono h.bel.size)⟩
theorem BxJ.new (cs ls : List Value) (w : World) : BxJ cs ls w.heap.size w ((w.alloc (.cells cs.toArray 39)).alloc (.cells ls.toArray 26)) :=
  ⟨heap_alloc2_old w _ _, heap_alloc2_new w _ _, (bW w _).trans ((bW _ _).mono (by rw [World.size_alloc]; omega))⟩
theorem from_at {W : World} {b : Nat} {f fl t tl : Int} {nt : Bool} {T : TypeId} (h : W.heap[b]? = some (.cells (cmC f fl t tl nt).toArray T (0, 0))) : W.rangeAt b 2 (adC f fl) := fun j v hv => by
  rw [obj_cell h]
  have hj : j < 11 := (List.getElem?_eq_some_iff.1 hv).1
  rcases (show j = 0 ∨ j = 1 ∨ j = 2 ∨ j = 3 ∨ j = 4 ∨ j = 5 ∨ j = 6 ∨ j = 7 ∨ j = 8 ∨ j = 9 ∨ j = 10 by omega) with rfl | rfl | rfl | rfl | rfl | rfl | rfl | rfl | rfl | rfl | rfl <;> exact hv
theorem to_at {W : World} {b : Nat} {f fl t tl : Int} {nt : Bool} {T : TypeId} (h : W.heap[b]? = some (.cells (cmC f fl t tl nt).toArray T (0, 0))) : W.rangeAt b 13 (adC t tl) := fun j v hv => by
  rw [obj_cell h]
  have hj : j < 11 := (List.getElem?_eq_some_iff.1 hv).1
  rcases (show j = 0 ∨ j = 1 ∨ j = 2 ∨ j = 3 ∨ j = 4 ∨ j = 5 ∨ j = 6 ∨ j = 7 ∨ j = 8 ∨ j = 9 ∨ j = 10 by omega) with rfl | rfl | rfl | rfl | rfl | rfl | rfl | rfl | rfl | rfl | rfl <;> exact hv
theorem look_at {W : World} {b : Nat} {ls : List Value} {T : TypeId} (h : W.heap[b]? = some (.cells ls.toArray T (0, 0))) : W.rangeAt b 0 ls := fun j v hv => by
  rw [obj_cell h, Nat.zero_add]
  simpa using hv
theorem not_at {W : World} {b : Nat} {f fl t tl : Int} {nt : Bool} {T : TypeId} (h : W.heap[b]? = some (.cells (cmC f fl t tl nt).toArray T (0, 0))) : W.cell? ⟨b, 24, none⟩ = some (.bool nt) := by
  rw [obj_cell h]
  rfl

set_option maxRecDepth 100000 in
set_option maxHeartbeats 8000000 in
theorem inRange_is (f fl t tl n : Int) (nt la fi se op : Bool) (w : World) : Calls Try.prog 14 #[(.agg (cmC f fl t tl nt).toArray), .bool op, (.agg (lkC n la fi se).toArray)] w fun e w' => e = .returned (.tuple #[.bool (inF f fl t tl n la fi se op).1, .bool (inF f fl t tl n la fi se op).2]) ∧ Below w.heap.size w w' := by
  have HR := Lib.hid (hasRange_c f fl t tl nt)
  have HH := Lib.hid (holds_c f fl n la fi se)
  have HE := Lib.hid (ends_c t tl n la fi se op)
  unfold inF
  obtain ⟨hf, hhf⟩ : ∃ hf, hf = holdsF f fl n la fi := ⟨_, rfl⟩
  obtain ⟨en, hen⟩ : ∃ en, en = endsF t tl n la se op := ⟨_, rfl⟩
  rw [← hhf] at HH ⊢
  rw [← hen] at HE ⊢
  clear hhf hen
  have hc := Lib.hid (show (t == 0) = !(t != 0) by cases h : (t == 0) <;> simp [bne, h])
  rw [hc.out]
  clear hc
  obtain ⟨z, hz⟩ : ∃ z, z = (t != 0) := ⟨_, rfl⟩
  rw [← hz] at HR ⊢
  clear hz
  go_enter Try.func14, Try.ntmps14
  go_upto_region 1 with (first | (refine wpList_bx rfl 39 (.tmp 0) rfl (some 3) rfl w.heap.size rfl (cmC f fl t tl nt).toArray rfl ?_) | (refine wpList_bx rfl 26 (.tmp 2) rfl (some 5) rfl (w.heap.size + 1) (World.size_alloc w _) (lkC n la fi se).toArray rfl ?_))

  obtain ⟨W, hW⟩ : ∃ W, W = (w.alloc (.cells (cmC f fl t tl nt).toArray 39)).alloc (.cells (lkC n la fi se).toArray 26) := ⟨_, rfl⟩
  obtain ⟨b, hb⟩ : ∃ b, b = w.heap.size := ⟨_, rfl⟩
  have H0 := Lib.hid (show BxJ (cmC f fl t tl nt) (lkC n la fi se) b w W by rw [hb, hW]; exact BxJ.new _ _ w)
  rw [← hW, ← hb]
  clear hW hb
  go_wp2_with (refine wpList_load_row rfl 39 (.tmp 3) rfl b rfl 39 _ (0, 0) _ H0.out.one Try.underlying39 rfl size_cmd ?_)
  go_at_call 12
  with_reducible refine (HR.out _).mono ?_
  rintro e w1 ⟨rfl, hb1⟩
  have H1 := Lib.hid (H0.out.stays hb1)
  clear hb1
  cases z with
  | false =>
    go_wp2_with (first | (refine wpList_load_mid rfl 36 (.tmp 11) rfl b 2 rfl (adC f fl) _ (from_at H1.out.one) Try.underlying36 rfl size_adr ?_) | (refine wpList_load_row rfl 26 (.tmp 5) rfl (b + 1) rfl 26 _ (0, 0) _ H1.out.two Try.underlying26 rfl size_look ?_))
    go_at_call 15
    with_reducible refine (HH.out _).mono ?_
    rintro e w2 ⟨rfl, hb2⟩
    have H2 := Lib.hid (H1.out.stays hb2)
    clear hb2
    go_wp2_with fail
    go_ret2
    exact ⟨rfl, H2.out.bel⟩
  | true =>
    cases op with
    | true =>
      go_wp2_with (first | (refine wpList_load_mid rfl 36 (.tmp 24) rfl b 13 rfl (adC t tl) _ (to_at H1.out.one) Try.underlying36 rfl size_adr ?_) | (refine wpList_load_row rfl 26 (.tmp 5) rfl (b + 1) rfl 26 _ (0, 0) _ H1.out.two Try.underlying26 rfl size_look ?_))
      go_at_call 16
      with_reducible refine (HE.out _).mono ?_
      rintro e w2 ⟨rfl, hb2⟩
      have H2 := Lib.hid (H1.out.stays hb2)
      clear hb2
      go_wp2_with fail
      go_ret2
      exact ⟨rfl, H2.out.bel⟩
    | false =>
      go_wp2_with (first | (refine wpList_load_gm rfl 36 (.tmp 18) rfl b 2 rfl (adC f fl) _ (from_at H1.out.one) Try.underlying36 rfl size_adr ?_) | (refine wpList_load_gm rfl 26 (.tmp 5) rfl (b + 1) 0 rfl (lkC n la fi se) _ (look_at H1.out.two) Try.underlying26 rfl size_look ?_))
      go_at_call 15
      with_reducible refine (HH.out _).mono ?_
      rintro e w2 ⟨rfl, hb2⟩
      have H2 := Lib.hid (H1.out.stays hb2)
      clear hb2
      cases hf with
      | false =>
        go_wp2_with fail
        go_ret2
        exact ⟨rfl, H2.out.bel⟩
      | true =>
        go_wp2_with (first | (refine wpList_load_mid rfl 36 (.tmp 24) rfl b 13 rfl (adC t tl) _ (to_at H2.out.one) Try.underlying36 rfl size_adr ?_) | (refine wpList_load_row rfl 26 (.tmp 5) rfl (b + 1) rfl 26 _ (0, 0) _ H2.out.two Try.underlying26 rfl size_look ?_))
        go_at_call 16
        with_reducible refine (HE.out _).mono ?_
        rintro e w3 ⟨rfl, hb3⟩
        have H3 := Lib.hid (H2.out.stays hb3)
        clear hb3
        go_wp2_with fail
        go_ret2
        exact ⟨rfl, H3.out.bel⟩
set_option maxRecDepth 100000 in
set_option maxHeartbeats 8000000 in
theorem selects_is (f fl t tl n : Int) (nt la fi se op : Bool) (w : World) : Calls Try.prog 10 #[(.agg (cmC f fl t tl nt).toArray), .bool op, (.agg (lkC n la fi se).toArray)] w fun e w' => e = .returned (.tuple #[.bool (selF f fl t tl n nt la fi se op).1, .bool (selF f fl t tl n nt la fi se op).2]) ∧ Below w.heap.size w w' := by
  have HI := Lib.hid (inRange_is f fl t tl n nt la fi se op)
  unfold selF
  obtain ⟨r, hr⟩ : ∃ r, r = inF f fl t tl n la fi se op := ⟨_, rfl⟩
  rw [← hr] at HI ⊢
  obtain ⟨r1, r2⟩ := r
  clear hr
  go_enter Try.func10, Try.ntmps10
  go_upto_region 1 with (first | (refine wpList_bx rfl 39 (.tmp 0) rfl (some 3) rfl w.heap.size rfl (cmC f fl t tl nt).toArray rfl ?_) | (refine wpList_bx rfl 26 (.tmp 2) rfl (some 5) rfl (w.heap.size + 1) (World.size_alloc w _) (lkC n la fi se).toArray rfl ?_))

  obtain ⟨W, hW⟩ : ∃ W, W = (w.alloc (.cells (cmC f fl t tl nt).toArray 39)).alloc (.cells (lkC n la fi se).toArray 26) := ⟨_, rfl⟩
  obtain ⟨b, hb⟩ : ∃ b, b = w.heap.size := ⟨_, rfl⟩
  have H0 := Lib.hid (show BxJ (cmC f fl t tl nt) (lkC n la fi se) b w W by rw [hb, hW]; exact BxJ.new _ _ w)
  rw [← hW, ← hb]
  clear hW hb
  go_wp2_with (first | (refine wpList_load_row rfl 39 (.tmp 3) rfl b rfl 39 _ (0, 0) _ H0.out.one Try.underlying39 rfl size_cmd ?_) | (refine wpList_load_row rfl 26 (.tmp 5) rfl (b + 1) rfl 26 _ (0, 0) _ H0.out.two Try.underlying26 rfl size_look ?_))
  go_at_call 14
  with_reducible refine (HI.out _).mono ?_
  rintro e w1 ⟨rfl, hb1⟩
  have H1 := Lib.hid (H0.out.stays hb1)
  clear hb1
  have hn := not_at H1.out.one
  go_wp2_with fail
  go_ret2
  exact ⟨rfl, H1.out.bel⟩
end Go.Proofs.Ytaagadaamnolcaa

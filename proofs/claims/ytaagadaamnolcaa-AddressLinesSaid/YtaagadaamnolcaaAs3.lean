/-
  Package address: what is needed; a command of two addresses; the live question. No condition.
-/
import Derived.Test.YtaagadaamnolcaaAs2
import Derived.Lib.QuietBelow
import Derived.Deep.WholeRow
namespace Go.Proofs.Ytaagadaamnolcaa
open Go.RowKit Go.Deep Go.Sort

/-- A command in its box. -/
structure B1 (cs : List Value) (b : Nat) (w W : World) : Prop where
  one : W.heap[b]? = some (.cells cs.toArray 39 (0, 0))
  bel : Below w.heap.size w W
theorem B1.stays {cs : List Value} {b : Nat} {w W W' : World} (h : B1 cs b w W) (hb : Below W.heap.size W W') : B1 cs b w W' :=
  ⟨Below.obj hb h.one (lt_of_some h.one), h.bel.trans (hb.mono h.bel.size)⟩
theorem B1.new (cs : List Value) (w : World) : B1 cs w.heap.size w (w.alloc (.cells cs.toArray 39)) := ⟨heap_alloc_new w _, bW w _⟩

set_option maxRecDepth 100000 in
set_option maxHeartbeats 8000000 in
theorem needs_is (f fl t tl : Int) (nt op : Bool) (w : World) : Calls Try.prog 9 #[(.agg (cmC f fl t tl nt).toArray), .bool op] w fun e w' => e = .returned (.tuple #[.bool (needF f t op).1, .bool (needF f t op).2]) ∧ Below w.heap.size w w' := by
  have HR := Lib.hid (hasRange_c f fl t tl nt)
  have HF := Lib.hid (asks_is f fl)
  have HT := Lib.hid (asks_is t tl)
  unfold needF
  obtain ⟨pf, hpf⟩ : ∃ pf, pf = asksF f := ⟨_, rfl⟩
  obtain ⟨pt, hpt⟩ : ∃ pt, pt = asksF t := ⟨_, rfl⟩
  obtain ⟨z, hz⟩ : ∃ z, z = (t != 0) := ⟨_, rfl⟩
  rw [← hpf] at HF ⊢
  rw [← hpt] at HT ⊢
  rw [← hz] at HR ⊢
  clear hpf hpt hz
  go_enter Try.func9, Try.ntmps9
  go_upto_region 1 with (refine wpList_bx rfl 39 (.tmp 0) rfl (some 2) rfl w.heap.size rfl (cmC f fl t tl nt).toArray rfl ?_)
  obtain ⟨W, hW⟩ : ∃ W, W = w.alloc (.cells (cmC f fl t tl nt).toArray 39) := ⟨_, rfl⟩
  obtain ⟨b, hb⟩ : ∃ b, b = w.heap.size := ⟨_, rfl⟩
  have H0 := Lib.hid (show B1 (cmC f fl t tl nt) b w W by rw [hb, hW]; exact B1.new _ w)
  rw [← hW, ← hb]
  clear hW hb
  cases op with
  | false =>
    go_upto_region 2 with fail
    have c2 := cell_regrown (show W.cell? ⟨b, 2, none⟩ = some (.int .i64 f) by rw [obj_cell H0.out.one]; rfl)
    have c3 := cell_regrown (show W.cell? ⟨b, 3, none⟩ = some (.int .i64 fl) by rw [obj_cell H0.out.one]; rfl)
    have c4 := cell_regrown (show W.cell? ⟨b, 4, none⟩ = some (.int .i64 0) by rw [obj_cell H0.out.one]; rfl)
    have c5 := cell_regrown (show W.cell? ⟨b, 5, none⟩ = some (.int .u64 0) by rw [obj_cell H0.out.one]; rfl)
    have c6 := cell_regrown (show W.cell? ⟨b, 6, none⟩ = some (.int .u64 0) by rw [obj_cell H0.out.one]; rfl)
    have c7 := cell_regrown (show W.cell? ⟨b, 7, none⟩ = some (.int .u64 0) by rw [obj_cell H0.out.one]; rfl)
    have c8 := cell_regrown (show W.cell? ⟨b, 8, none⟩ = some (.int .u64 0) by rw [obj_cell H0.out.one]; rfl)
    have c9 := cell_regrown (show W.cell? ⟨b, 9, none⟩ = some (.int .i64 0) by rw [obj_cell H0.out.one]; rfl)
    have c10 := cell_regrown (show W.cell? ⟨b, 10, none⟩ = some (.int .i64 0) by rw [obj_cell H0.out.one]; rfl)
    have c11 := cell_regrown (show W.cell? ⟨b, 11, none⟩ = some (.int .i64 0) by rw [obj_cell H0.out.one]; rfl)
    have c12 := cell_regrown (show W.cell? ⟨b, 12, none⟩ = some (.slice none 0 0) by rw [obj_cell H0.out.one]; rfl)
    have c13 := cell_regrown (show W.cell? ⟨b, 13, none⟩ = some (.int .i64 t) by rw [obj_cell H0.out.one]; rfl)
    have c14 := cell_regrown (show W.cell? ⟨b, 14, none⟩ = some (.int .i64 tl) by rw [obj_cell H0.out.one]; rfl)
    have c15 := cell_regrown (show W.cell? ⟨b, 15, none⟩ = some (.int .i64 0) by rw [obj_cell H0.out.one]; rfl)
    have c16 := cell_regrown (show W.cell? ⟨b, 16, none⟩ = some (.int .u64 0) by rw [obj_cell H0.out.one]; rfl)
    have c17 := cell_regrown (show W.cell? ⟨b, 17, none⟩ = some (.int .u64 0) by rw [obj_cell H0.out.one]; rfl)
    have c18 := cell_regrown (show W.cell? ⟨b, 18, none⟩ = some (.int .u64 0) by rw [obj_cell H0.out.one]; rfl)
    have c19 := cell_regrown (show W.cell? ⟨b, 19, none⟩ = some (.int .u64 0) by rw [obj_cell H0.out.one]; rfl)
    have c20 := cell_regrown (show W.cell? ⟨b, 20, none⟩ = some (.int .i64 0) by rw [obj_cell H0.out.one]; rfl)
    have c21 := cell_regrown (show W.cell? ⟨b, 21, none⟩ = some (.int .i64 0) by rw [obj_cell H0.out.one]; rfl)
    have c22 := cell_regrown (show W.cell? ⟨b, 22, none⟩ = some (.int .i64 0) by rw [obj_cell H0.out.one]; rfl)
    have c23 := cell_regrown (show W.cell? ⟨b, 23, none⟩ = some (.slice none 0 0) by rw [obj_cell H0.out.one]; rfl)
    have RF := Lib.hid (show ∀ (d : Nat) (os : Array Obj), Calls Try.prog 13 #[.agg #[.int .i64 f, .int .i64 fl, .int .i64 0, .int .u64 0, .int .u64 0, .int .u64 0, .int .u64 0, .int .i64 0, .int .i64 0, .int .i64 0, .slice none 0 0]] (grow (redrawn W d) os) fun e w'' => e = .returned (.bool pf) ∧ ∃ p : Regrown, w'' = grow (redrawn W p.d) p.os from fun d os => Calls.regrown_of (HF.out _))
    have RT := Lib.hid (show ∀ (d : Nat) (os : Array Obj), Calls Try.prog 13 #[.agg #[.int .i64 t, .int .i64 tl, .int .i64 0, .int .u64 0, .int .u64 0, .int .u64 0, .int .u64 0, .int .i64 0, .int .i64 0, .int .i64 0, .slice none 0 0]] (grow (redrawn W d) os) fun e w'' => e = .returned (.bool pt) ∧ ∃ p : Regrown, w'' = grow (redrawn W p.d) p.os from fun d os => Calls.regrown_of (HT.out _))
    have HBW := Lib.hid H0.out.bel
    cases pf <;> cases pt
    all_goals
      refine wp_region_quiet_below (by kernel_rfl) (by kernel_rfl) ?_
      repeat (go_big_quiet_step (first | (with_reducible exact RF.out _ _) | (with_reducible exact RT.out _ _)))
      refine wpQuiet_nil ?_
      rintro w5 ⟨⟨dq, osq⟩, rfl⟩
      have HB5 := Lib.hid (HBW.out.trans ((below_regrown W dq osq).mono HBW.out.size))
      generalize grow (redrawn W dq) osq = w5 at HB5 ⊢
      clear c2 c3 c4 c5 c6 c7 c8 c9 c10 c11 c12 c13 c14 c15 c16 c17 c18 c19 c20 c21 c22 c23 RF RT
      go_wp2_with fail
      go_ret2
      exact ⟨rfl, HB5.out⟩
  | true =>
    go_wp2_with (refine wpList_load_gm rfl 39 (.tmp 2) rfl b 0 rfl (cmC f fl t tl nt) _ (look_at H0.out.one) Try.underlying39 rfl size_cmd ?_)
    go_at_call 12
    with_reducible refine (HR.out _).mono ?_
    rintro e w1 ⟨rfl, hb1⟩
    have H1 := Lib.hid (H0.out.stays hb1)
    clear hb1
    go_upto_region 2 with fail
    have c2 := cell_regrown (show w1.cell? ⟨b, 2, none⟩ = some (.int .i64 f) by rw [obj_cell H1.out.one]; rfl)
    have c3 := cell_regrown (show w1.cell? ⟨b, 3, none⟩ = some (.int .i64 fl) by rw [obj_cell H1.out.one]; rfl)
    have c4 := cell_regrown (show w1.cell? ⟨b, 4, none⟩ = some (.int .i64 0) by rw [obj_cell H1.out.one]; rfl)
    have c5 := cell_regrown (show w1.cell? ⟨b, 5, none⟩ = some (.int .u64 0) by rw [obj_cell H1.out.one]; rfl)
    have c6 := cell_regrown (show w1.cell? ⟨b, 6, none⟩ = some (.int .u64 0) by rw [obj_cell H1.out.one]; rfl)
    have c7 := cell_regrown (show w1.cell? ⟨b, 7, none⟩ = some (.int .u64 0) by rw [obj_cell H1.out.one]; rfl)
    have c8 := cell_regrown (show w1.cell? ⟨b, 8, none⟩ = some (.int .u64 0) by rw [obj_cell H1.out.one]; rfl)
    have c9 := cell_regrown (show w1.cell? ⟨b, 9, none⟩ = some (.int .i64 0) by rw [obj_cell H1.out.one]; rfl)
    have c10 := cell_regrown (show w1.cell? ⟨b, 10, none⟩ = some (.int .i64 0) by rw [obj_cell H1.out.one]; rfl)
    have c11 := cell_regrown (show w1.cell? ⟨b, 11, none⟩ = some (.int .i64 0) by rw [obj_cell H1.out.one]; rfl)
    have c12 := cell_regrown (show w1.cell? ⟨b, 12, none⟩ = some (.slice none 0 0) by rw [obj_cell H1.out.one]; rfl)
    have c13 := cell_regrown (show w1.cell? ⟨b, 13, none⟩ = some (.int .i64 t) by rw [obj_cell H1.out.one]; rfl)
    have c14 := cell_regrown (show w1.cell? ⟨b, 14, none⟩ = some (.int .i64 tl) by rw [obj_cell H1.out.one]; rfl)
    have c15 := cell_regrown (show w1.cell? ⟨b, 15, none⟩ = some (.int .i64 0) by rw [obj_cell H1.out.one]; rfl)
    have c16 := cell_regrown (show w1.cell? ⟨b, 16, none⟩ = some (.int .u64 0) by rw [obj_cell H1.out.one]; rfl)
    have c17 := cell_regrown (show w1.cell? ⟨b, 17, none⟩ = some (.int .u64 0) by rw [obj_cell H1.out.one]; rfl)
    have c18 := cell_regrown (show w1.cell? ⟨b, 18, none⟩ = some (.int .u64 0) by rw [obj_cell H1.out.one]; rfl)
    have c19 := cell_regrown (show w1.cell? ⟨b, 19, none⟩ = some (.int .u64 0) by rw [obj_cell H1.out.one]; rfl)
    have c20 := cell_regrown (show w1.cell? ⟨b, 20, none⟩ = some (.int .i64 0) by rw [obj_cell H1.out.one]; rfl)
    have c21 := cell_regrown (show w1.cell? ⟨b, 21, none⟩ = some (.int .i64 0) by rw [obj_cell H1.out.one]; rfl)
    have c22 := cell_regrown (show w1.cell? ⟨b, 22, none⟩ = some (.int .i64 0) by rw [obj_cell H1.out.one]; rfl)
    have c23 := cell_regrown (show w1.cell? ⟨b, 23, none⟩ = some (.slice none 0 0) by rw [obj_cell H1.out.one]; rfl)
    have RF := Lib.hid (show ∀ (d : Nat) (os : Array Obj), Calls Try.prog 13 #[.agg #[.int .i64 f, .int .i64 fl, .int .i64 0, .int .u64 0, .int .u64 0, .int .u64 0, .int .u64 0, .int .i64 0, .int .i64 0, .int .i64 0, .slice none 0 0]] (grow (redrawn w1 d) os) fun e w'' => e = .returned (.bool pf) ∧ ∃ p : Regrown, w'' = grow (redrawn w1 p.d) p.os from fun d os => Calls.regrown_of (HF.out _))
    have RT := Lib.hid (show ∀ (d : Nat) (os : Array Obj), Calls Try.prog 13 #[.agg #[.int .i64 t, .int .i64 tl, .int .i64 0, .int .u64 0, .int .u64 0, .int .u64 0, .int .u64 0, .int .i64 0, .int .i64 0, .int .i64 0, .slice none 0 0]] (grow (redrawn w1 d) os) fun e w'' => e = .returned (.bool pt) ∧ ∃ p : Regrown, w'' = grow (redrawn w1 p.d) p.os from fun d os => Calls.regrown_of (HT.out _))
    have HBW := Lib.hid H1.out.bel
    cases pf <;> cases pt
    all_goals
      refine wp_region_quiet_below (by kernel_rfl) (by kernel_rfl) ?_
      repeat (go_big_quiet_step (first | (with_reducible exact RF.out _ _) | (with_reducible exact RT.out _ _)))
      refine wpQuiet_nil ?_
      rintro w5 ⟨⟨dq, osq⟩, rfl⟩
      have HB5 := Lib.hid (HBW.out.trans ((below_regrown w1 dq osq).mono HBW.out.size))
      generalize grow (redrawn w1 dq) osq = w5 at HB5 ⊢
      clear c2 c3 c4 c5 c6 c7 c8 c9 c10 c11 c12 c13 c14 c15 c16 c17 c18 c19 c20 c21 c22 c23 RF RT
      go_wp2_with fail
      go_ret2
      exact ⟨rfl, HB5.out⟩

/-- A command's box is made; the command is put into it. -/
def cmZ : List Value := (.complex .f64 0 0 :: .int .u8 0 :: .int .i64 0 :: .int .i64 0 :: .int .i64 0 :: .int .u64 0 :: .int .u64 0 :: .int .u64 0 :: .int .u64 0 :: .int .i64 0 :: .int .i64 0 :: .int .i64 0 :: .slice none 0 0 :: .int .i64 0 :: .int .i64 0 :: .int .i64 0 :: .int .u64 0 :: .int .u64 0 :: .int .u64 0 :: .int .u64 0 :: .int .i64 0 :: .int .i64 0 :: .int .i64 0 :: .slice none 0 0 :: .bool false :: .string ⟨#[]⟩ :: .string ⟨#[]⟩ :: .int .i64 0 :: .int .u64 0 :: .int .u64 0 :: .int .u64 0 :: .int .u64 0 :: .int .i64 0 :: .int .i64 0 :: .int .i64 0 :: .slice none 0 0 :: .bool false :: .slice none 0 0 :: .bool false :: .bool false :: .int .i64 0 :: .string ⟨#[]⟩ :: [])
set_option maxRecDepth 100000 in
theorem info_cmd : (Try.prog.info? 39).map (fun i => (i.zero, i.size, i.bytes)) = some (some (.agg cmZ.toArray), 42, 424) := by kernel_rfl
theorem wpList_alloc_cm {ops : Array Oper} {rest : List Oper} {o : Oper} {a : Act} {w : World} {Q : Exit → Act → World → Prop} (hgd : o.guard = none) (ho : o.op = .alloc 39)
    (h : ∀ Z : Array Value, Z.size = 42 → wpList Try.prog ops Q rest (a.put o.dst (.pointer (some ⟨w.heap.size, 0, none⟩))) (w.alloc (.cells Z 39))) : wpList Try.prog ops Q (o :: rest) a w := by
  obtain ⟨i, hi, hz, hs, hb⟩ := info_parts info_cmd
  refine wpList_plain hgd fun K hK => ?_
  unfold Oper.wp execOp
  have hzv : (zeroValue 39).run Try.prog w = .ok (.agg cmZ.toArray) w := by
    simp [zeroValue, typeInfo, hi, hz]
  simp only [ho, Sem.run_bind, Instr.alloc, hzv, newVar, newRow, run_newObj_alloc, Sem.run_pure, Result.andThen_ok]
  exact hK _ _ (h _ rfl)
theorem wpList_put_cm {ops : Array Oper} {rest : List Oper} {o : Oper} {a : Act} {w : World} {Q : Exit → Act → World → Prop} (hgd : o.guard = none) (x y : Operand) (ho : o.op = .store 39 x y) {f fl t tl : Int} {nt : Bool}
    (hx : a.eval x = .pointer (some ⟨w.heap.size, 0, none⟩)) (hy : a.eval y = (.agg (cmC f fl t tl nt).toArray)) {Z : Array Value} (hZ : Z.size = 42)
    (h : wpList Try.prog ops Q rest (a.put o.dst undef) (w.alloc (.cells (cmC f fl t tl nt).toArray 39))) :
    wpList Try.prog ops Q (o :: rest) a (w.alloc (.cells Z 39)) := by
  refine wpList_store_row hgd 39 x y ho w.heap.size (cmC f fl t tl nt).toArray hx hy 39 _ (heap_alloc_new w _) size_cmd hZ (all_oneCell_toArray (oneCell_cm f fl t tl nt)) ?_
  rw [World.setRow_alloc_new]
  exact h
theorem built_cm (f fl t tl : Int) (nt : Bool) : Try.prog.built 39 [(1, .int .u8 112), (2, .agg (adC f fl).toArray), (3, .agg (adC t tl).toArray), (4, .bool nt)] = some (cmC f fl t tl nt).toArray := by kernel_rfl
theorem wpList_build_cm {ops : Array Oper} {rest : List Oper} {o : Oper} {a : Act} {w : World} {Q : Exit → Act → World → Prop} (hgd : o.guard = none) (x y z : Operand) (ho : o.op = .build 39 #[(1, .const (.int .u8 112)), (2, x), (3, y), (4, z)]) {f fl t tl : Int} {nt : Bool}
    (hx : a.eval x = .agg (adC f fl).toArray) (hy : a.eval y = .agg (adC t tl).toArray) (hz : a.eval z = .bool nt) (h : wpList Try.prog ops Q rest (a.put o.dst (.agg (cmC f fl t tl nt).toArray)) w) : wpList Try.prog ops Q (o :: rest) a w := by
  have hb : Try.prog.built 39 ((#[(1, .const (.int .u8 112)), (2, x), (3, y), (4, z)] : Array (Nat × Operand)).map fun (i, x) => (i, a.eval x)).toList = some (cmC f fl t tl nt).toArray := by
    simp only [List.map_toArray, List.map_cons, List.map_nil, hx, hy, hz]
    exact built_cm f fl t tl nt
  refine wpList_plain hgd fun K hK => wp_build 39 _ ho (by rw [hb]; rfl) ?_
  rw [hb]
  exact hK _ _ h

set_option maxRecDepth 100000 in
set_option maxHeartbeats 8000000 in
theorem command_is (f fl t tl : Int) (nt : Bool) (w : World) : Calls Try.prog 8 #[(.agg #[.int .i64 f, .int .i64 t, .int .i64 fl, .int .i64 tl, .bool nt])] w fun e w' => e = .returned (.agg (cmC f fl t tl nt).toArray) ∧ Below w.heap.size w w' := by
  go_enter Try.func8, Try.ntmps8
  go_upto_region 1 with ((refine wpList_alloc_cm rfl rfl ?_; intro Z hZ; have HZ := Lib.hid hZ; clear hZ))
  obtain ⟨w1, hw1⟩ : ∃ w1, w1 = w.alloc (.cells #[.int .i64 f, .int .i64 t, .int .i64 fl, .int .i64 tl, .bool nt] 24) := ⟨_, rfl⟩
  obtain ⟨b, hb⟩ : ∃ b, b = w.heap.size := ⟨_, rfl⟩
  have HB := Lib.hid (show Below w.heap.size w w1 by rw [hw1]; exact bW w _)
  have k0 : (w1.alloc (.cells Z 39)).cell? ⟨b, 0, none⟩ = some (.int .i64 f) := by rw [hb, hw1, obj_cell (heap_alloc2_old w _ _)]; rfl
  have k1 : (w1.alloc (.cells Z 39)).cell? ⟨b, 1, none⟩ = some (.int .i64 t) := by rw [hb, hw1, obj_cell (heap_alloc2_old w _ _)]; rfl
  have k2 : (w1.alloc (.cells Z 39)).cell? ⟨b, 2, none⟩ = some (.int .i64 fl) := by rw [hb, hw1, obj_cell (heap_alloc2_old w _ _)]; rfl
  have k3 : (w1.alloc (.cells Z 39)).cell? ⟨b, 3, none⟩ = some (.int .i64 tl) := by rw [hb, hw1, obj_cell (heap_alloc2_old w _ _)]; rfl
  have k4 : (w1.alloc (.cells Z 39)).cell? ⟨b, 4, none⟩ = some (.bool nt) := by rw [hb, hw1, obj_cell (heap_alloc2_old w _ _)]; rfl
  rw [← hw1, ← hb]
  simp only [Act.put]
  clear hw1 hb
  go_wp2_with (first | (refine wpList_build_cm rfl (.tmp 7) (.tmp 12) (.tmp 14) rfl (f := f) (fl := fl) (t := t) (tl := tl) (nt := nt) rfl rfl rfl ?_) | (refine wpList_put_cm rfl (.tmp 2) (.tmp 15) rfl (f := f) (fl := fl) (t := t) (tl := tl) (nt := nt) rfl rfl HZ.out ?_))
  refine bodyPost_ret (v := (.agg (cmC f fl t tl nt).toArray)) (results_cell_row (p := 2) (ty := 39) (by kernel_rfl) _ _ w1.heap.size 39 (cmC f fl t tl nt).toArray (0, 0) _ rfl (heap_alloc_new w1 _) Try.underlying39 rfl size_cmd) rfl ⟨rfl, HB.out.alloc HB.out.size _⟩
set_option maxRecDepth 100000 in
set_option maxHeartbeats 8000000 in
theorem alive_is (w : World) : Calls Try.prog 11 #[] w fun e w' => e = .returned (.bool true) ∧ Below w.heap.size w w' := by
  have HC := Lib.hid (command_is 1 2 2 0 false)
  have HS := Lib.hid (selects_is 1 2 2 0 2 false false false false false)
  unfold lkC at HS
  have hs : selF 1 2 2 0 2 false false false false false = (true, true) := by decide
  rw [hs] at HS
  clear hs
  go_enter Try.func11, Try.ntmps11
  go_wp2_with fail
  go_at_call 8
  with_reducible refine (HC.out _).mono ?_
  rintro e w1 ⟨rfl, hb1⟩
  have HB1 := Lib.hid hb1
  clear hb1
  go_upto_region 2 with (first | (refine wpList_alloc_cm rfl rfl ?_; intro Z hZ; have HZ := Lib.hid hZ; clear hZ) | (refine wpList_put_cm rfl (.tmp 1) (.tmp 5) rfl (f := 1) (fl := 2) (t := 2) (tl := 0) (nt := false) rfl rfl HZ.out ?_))
  obtain ⟨W, hW⟩ : ∃ W, W = w1.alloc (.cells (cmC 1 2 2 0 false).toArray 39) := ⟨_, rfl⟩
  obtain ⟨b, hb⟩ : ∃ b, b = w1.heap.size := ⟨_, rfl⟩
  have H0 := Lib.hid (show B1 (cmC 1 2 2 0 false) b w W by rw [hb, hW]; exact ⟨heap_alloc_new w1 _, HB1.out.alloc HB1.out.size _⟩)
  rw [← hW, ← hb]
  clear hW hb
  go_wp2_with (refine wpList_load_row rfl 39 (.tmp 1) rfl b rfl 39 _ (0, 0) _ H0.out.one Try.underlying39 rfl size_cmd ?_)
  go_at_call 10
  with_reducible refine (HS.out _).mono ?_
  rintro e w2 ⟨rfl, hb2⟩
  have H2 := Lib.hid (H0.out.stays hb2)
  clear hb2
  go_wp2_with fail
  go_ret
  exact ⟨rfl, H2.out.bel⟩
end Go.Proofs.Ytaagadaamnolcaa

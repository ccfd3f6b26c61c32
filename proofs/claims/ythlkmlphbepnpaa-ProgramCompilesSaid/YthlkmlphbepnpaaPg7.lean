/-
  Package program's copies of commands without patterns and templates. No condition.
-/
import Derived.Test.YthlkmlphbepnpaaPg6
import Derived.Lib.SliceRun
namespace Go.Proofs.Ythlkmlphbepnpaa
open Go.RowKit Go.Deep

def nodeZ : List Value := [.int .i64 0, .int .u64 0, .int .u64 0, .int .u64 0, .int .u64 0, .int .i64 0, .int .i64 0, .int .i64 0, .slice none 0 0]
theorem clone_nodes (w : World) : Calls Try.prog 37 #[.slice none 0 0] w fun e w' => e = .returned (.slice none 0 0) ∧ w' = w := by
  have q : ∀ (w : World) (a : Option Addr) (n c n' c' : Nat), (binOp .eql 44 (.slice a n c) (.slice none n' c')).run Try.prog w = .ok (.bool a.isNone) w := fun w a n c n' c' => Lib.run_eql_slice_nil w _ _ a n c n' c' Try.underlying44
  go_enter Try.func37, Try.ntmps37
  go_wp2_with fail
  go_ret
  exact ⟨rfl, rfl⟩
theorem clone_pieces (w : World) : Calls Try.prog 30 #[.slice none 0 0] w fun e w' => e = .returned (.slice none 0 0) ∧ w' = w := by
  have q : ∀ (w : World) (a : Option Addr) (n c n' c' : Nat), (binOp .eql 49 (.slice a n c) (.slice none n' c')).run Try.prog w = .ok (.bool a.isNone) w := fun w a n c n' c' => Lib.run_eql_slice_nil w _ _ a n c n' c' Try.underlying49
  go_enter Try.func30, Try.ntmps30
  go_wp2_with fail
  go_ret
  exact ⟨rfl, rfl⟩
set_option maxRecDepth 100000 in
theorem copy_node (w : World) : Calls Try.prog 29 #[.agg nodeZ.toArray] w fun e w' => e = .returned (.agg nodeZ.toArray) ∧ Below w.heap.size w w' := by
  have HC := Lib.hid clone_nodes
  have HB0 := Lib.hid (Below.refl w.heap.size w)
  unfold nodeZ
  go_enter Try.func29, Try.ntmps29
  go_wp2_with fail
  go_at_call 37
  refine (HC.out _).mono ?_
  rintro e w1 ⟨rfl, rfl⟩
  go_wp2_with fail
  go_loopw [3, 4, 12] (fun _ _ v wz => v = .int .i64 0 ∧ wz = (w.alloc (.cells #[.int .i64 0, .int .u64 0, .int .u64 0, .int .u64 0, .int .u64 0, .int .i64 0, .int .i64 0, .int .i64 0, .slice none 0 0] 46)).alloc (.cells #[.int .i64 0, .int .u64 0, .int .u64 0, .int .u64 0, .int .u64 0, .int .i64 0, .int .i64 0, .int .i64 0, .slice none 0 0] 46)) (fun _ _ _ _ => 0)
  case atStart => exact ⟨rfl, rfl⟩
  case round =>
    obtain ⟨rfl, rfl⟩ := hrel
    have HB2 := Lib.hid (((Below.refl w.heap.size w).alloc (Nat.le_refl _) (.cells #[.int .i64 0, .int .u64 0, .int .u64 0, .int .u64 0, .int .u64 0, .int .i64 0, .int .i64 0, .int .i64 0, .slice none 0 0] 46)).alloc (by rw [World.size_alloc]; omega) (.cells #[.int .i64 0, .int .u64 0, .int .u64 0, .int .u64 0, .int .u64 0, .int .i64 0, .int .i64 0, .int .i64 0, .slice none 0 0] 46))
    go_wp2_with fail
    refine bodyPost_ret (v := .agg #[.int .i64 0, .int .u64 0, .int .u64 0, .int .u64 0, .int .u64 0, .int .i64 0, .int .i64 0, .int .i64 0, .slice none 0 0]) (results_cell_row (p := 2) (ty := 46) (by kernel_rfl) _ _ (w.heap.size + 1) 46 #[.int .i64 0, .int .u64 0, .int .u64 0, .int .u64 0, .int .u64 0, .int .i64 0, .int .i64 0, .int .i64 0, .slice none 0 0] (0, 0) _ (by kernel_rfl) (heap_alloc2_new w _ _) Try.underlying46 rfl (by kernel_rfl)) rfl ⟨rfl, HB2.out⟩
/-- A store of what lies there. -/
theorem setCell_self {w : World} {g i : Nat} {cur : Array Value} {t : TypeId} {fr : Nat × Nat} {v : Value} (hg : w.heap[g]? = some (.cells cur t fr)) (hv : cur[i]? = some v) : w.setCell ⟨g, i, none⟩ v = w := by
  rw [setCell_eq_setRow w g i cur t fr v hg, show cur.setIfInBounds i v = cur by
    apply Array.ext_getElem?
    intro k
    rw [Array.getElem?_setIfInBounds]
    by_cases hk : i = k
    · subst hk
      rw [if_pos rfl, hv]
      have := (Array.getElem?_eq_some_iff.1 hv).1
      simp [this]
    · rw [if_neg hk]]
  exact setRow_self w g cur t fr hg
theorem setCells_self {w : World} {g : Nat} {cur : Array Value} {t : TypeId} {fr : Nat × Nat} (hg : w.heap[g]? = some (.cells cur t fr)) : ∀ (vs : List Value) (o : Nat), (∀ j v, vs[j]? = some v → cur[o + j]? = some v) → w.setCells g o vs = w
  | [], o, _ => rfl
  | v :: r, o, h => by
    rw [World.setCells, setCell_self hg (by have := h 0 v rfl; rwa [Nat.add_zero] at this)]
    exact setCells_self hg r (o + 1) fun j u hu => by
      have := h (j + 1) u (by simpa using hu)
      rwa [show o + 1 + j = o + (j + 1) by omega]
theorem wpList_store_to {ops : Array Oper} {rest : List Oper} {o : Oper} {a : Act} {w w' : World} {Q : Exit → Act → World → Prop} (hgd : o.guard = none) (ty : TypeId) (x y : Operand) (ho : o.op = .store ty x y) {X Y : Value} (hx : a.eval x = X) (hy : a.eval y = Y)
    (hrun : (Instr.storeAt ty X Y).run Try.prog w = .ok () w') (h : wpList Try.prog ops Q rest (a.put o.dst undef) w') : wpList Try.prog ops Q (o :: rest) a w := by
  refine wpList_plain hgd fun K hK => ?_
  unfold Oper.wp execOp
  simp only [ho, hx, hy, Sem.run_bind, hrun, Result.andThen_ok, Sem.run_pure]
  exact hK _ _ h
theorem node_there {W : World} {b : Nat} {c : CM} {T : TypeId} (h : W.heap[b]? = some (.cells c.cells.toArray T (0, 0))) (o : Nat) (ho : o = 4 ∨ o = 15 ∨ o = 27) : W.rangeAt b o nodeZ ∧ (Instr.storeAt 46 (.pointer (some ⟨b, o, none⟩)) (.agg nodeZ.toArray)).run Try.prog W = .ok () W := by
  have hc : ∀ j v, nodeZ[j]? = some v → c.cells.toArray[o + j]? = some v := by
    intro j v hv
    have hj : j < 9 := (List.getElem?_eq_some_iff.1 hv).1
    rcases ho with rfl | rfl | rfl <;> rcases (show j = 0 ∨ j = 1 ∨ j = 2 ∨ j = 3 ∨ j = 4 ∨ j = 5 ∨ j = 6 ∨ j = 7 ∨ j = 8 by omega) with rfl | rfl | rfl | rfl | rfl | rfl | rfl | rfl | rfl <;> exact hv
  refine ⟨fun j v hv => by rw [obj_cell h]; exact hc j v hv, ?_⟩
  have h1 := run_storeAt_mid (P := Try.prog) W b o 46 nodeZ.toArray (fun j hj => by
    have hj : j < nodeZ.length := by simpa using hj
    refine ⟨?_, frozen_of_row W b _ _ _ h⟩
    rw [obj_cell h, hc j _ (List.getElem?_eq_getElem hj)]
    rfl) (by kernel_rfl) (all_oneCell_toArray (by simp [nodeZ, Value.oneCell']))
  rw [h1, setCells_self h _ o hc]
theorem load_node {W : World} {b o : Nat} (h : W.rangeAt b o nodeZ) : (Instr.loadAt 46 (.pointer (some ⟨b, o, none⟩))).run Try.prog W = .ok (.agg nodeZ.toArray) W :=
  run_loadAt_mid W b o 46 nodeZ _ h Try.underlying46 rfl (by kernel_rfl)
theorem below_setRow {B b : Nat} {w W : World} (h : Below B w W) (hb : B ≤ b) (cs : Array Value) : Below B w (W.setRow b cs) := ⟨h.os, h.tape, h.output, by rw [setRow_size]; exact h.size, fun k hk => (setRow_other W b k _ (by omega)).trans (h.block k hk)⟩
/-- What lies in memory while a command is copied: its box, and the result's. -/
structure CpJ (c : CM) (Z : Array Value) (w : World) (b1 b2 : Nat) (W : World) : Prop where
  one : W.heap[b1]? = some (.cells c.cells.toArray 51 (0, 0))
  two : W.heap[b2]? = some (.cells Z 51 (0, 0))
  bel : Below w.heap.size w W
  big : w.heap.size ≤ b2
theorem CpJ.stays {c : CM} {Z : Array Value} {w : World} {b1 b2 : Nat} {W W' : World} (h : CpJ c Z w b1 b2 W) (hb : Below W.heap.size W W') : CpJ c Z w b1 b2 W' :=
  ⟨Below.obj hb h.one (lt_of_some h.one), Below.obj hb h.two (lt_of_some h.two), h.bel.trans (hb.mono h.bel.size), h.big⟩
theorem CpJ.piece {c : CM} {Z : Array Value} {w : World} {b1 b2 : Nat} {W : World} (h : CpJ c Z w b1 b2 W) : W.cell? ⟨b1, 37, none⟩ = some (.slice none 0 0) := by rw [obj_cell h.one]; rfl
set_option maxRecDepth 100000 in
set_option maxHeartbeats 1000000 in
theorem copy_cmd (c : CM) (w : World) : Calls Try.prog 20 #[c.v] w fun e w' => e = .returned c.v ∧ Below w.heap.size w w' := by
  have HN := Lib.hid copy_node
  have HP := Lib.hid clone_pieces
  go_enter Try.func20, Try.ntmps20
  go_upto_region 1 with (first | (refine wpList_boxTo rfl 51 (.tmp 0) rfl (some 1) rfl w.heap.size rfl c.cells.toArray rfl ?_) | (refine wpList_alloc_cmd rfl rfl ?_; intro Z hZ; have HZ := Lib.hid hZ; clear hZ))
  simp only [CM.v, Act.put, World.size_alloc]
  obtain ⟨w0, hw0⟩ : ∃ w0, w0 = (w.alloc (.cells c.cells.toArray 51)).alloc (.cells Z 51) := ⟨_, rfl⟩
  obtain ⟨b1, hb1⟩ : ∃ b1, b1 = w.heap.size := ⟨_, rfl⟩
  obtain ⟨b2, hb2⟩ : ∃ b2, b2 = b1 + 1 := ⟨_, rfl⟩
  have H0 := Lib.hid (show CpJ c Z w b1 b2 w0 by
    rw [hb2, hb1, hw0]
    exact ⟨heap_alloc2_old w _ _, heap_alloc2_new w _ _, (bW w _).trans ((bW _ _).mono (by rw [World.size_alloc]; omega)), by omega⟩)
  rw [← hw0, ← hb1, ← hb2]
  clear hb1 hb2 hw0
  go_wp2_with (refine wpList_load_mid rfl 46 (.tmp 4) rfl b1 4 rfl nodeZ _ (node_there H0.out.one 4 (.inl rfl)).1 Try.underlying46 rfl (by kernel_rfl) ?_)
  go_at_call 29
  with_reducible refine (HN.out _).mono ?_
  rintro e w1 ⟨rfl, hb1⟩
  have H1 := Lib.hid (H0.out.stays hb1)
  clear hb1
  go_wp2_with (first | (refine wpList_store_to rfl 46 (.tmp 8) (.tmp 6) rfl rfl rfl (node_there H1.out.one 4 (.inl rfl)).2 ?_) | (refine wpList_load_mid rfl 46 (.tmp 10) rfl b1 15 rfl nodeZ _ (node_there H1.out.one 15 (.inr (.inl rfl))).1 Try.underlying46 rfl (by kernel_rfl) ?_))
  go_at_call 29
  with_reducible refine (HN.out _).mono ?_
  rintro e w2 ⟨rfl, hb2⟩
  have H2 := Lib.hid (H1.out.stays hb2)
  clear hb2
  go_wp2_with (first | (refine wpList_store_to rfl 46 (.tmp 14) (.tmp 12) rfl rfl rfl (node_there H2.out.one 15 (.inr (.inl rfl))).2 ?_) | (refine wpList_load_mid rfl 46 (.tmp 15) rfl b1 27 rfl nodeZ _ (node_there H2.out.one 27 (.inr (.inr rfl))).1 Try.underlying46 rfl (by kernel_rfl) ?_))
  go_at_call 29
  with_reducible refine (HN.out _).mono ?_
  rintro e w3 ⟨rfl, hb3⟩
  have H3 := Lib.hid (H2.out.stays hb3)
  clear hb3
  have hp := H3.out.piece
  have hps := setCell_self H3.out.one (i := 37) (v := .slice none 0 0) rfl
  have hpf := frozen_of_row w3 b1 37 _ _ H3.out.one
  go_wp2_with (refine wpList_store_to rfl 46 (.tmp 18) (.tmp 17) rfl rfl rfl (node_there H3.out.one 27 (.inr (.inr rfl))).2 ?_)
  go_at_call 30
  with_reducible refine (HP.out _).mono ?_
  rintro e w4 ⟨rfl, rfl⟩
  go_wp2_with (first | (refine wpList_load_row rfl 51 (.tmp 1) rfl b1 rfl 51 c.cells.toArray (0, 0) _ H3.out.one Try.underlying51 rfl size_cmd ?_) | (refine wpList_store_row rfl 51 (.tmp 2) (.tmp 23) rfl b2 c.cells.toArray rfl rfl 51 Z H3.out.two size_cmd HZ.out (all_oneCell_toArray (oneCell_cm c)) ?_))
  have hr2 := setRow_heap w4 b2 Z c.cells.toArray 51 _ H3.out.two
  have hbe : Below w.heap.size w (w4.setRow b2 c.cells.toArray) := below_setRow H3.out.bel H3.out.big _
  refine bodyPost_ret (v := c.v) (results_cell_row (p := 2) (ty := 51) (by kernel_rfl) _ _ b2 51 c.cells.toArray (0, 0) _ rfl hr2 Try.underlying51 rfl size_cmd) rfl ⟨rfl, hbe⟩
end Go.Proofs.Ythlkmlphbepnpaa

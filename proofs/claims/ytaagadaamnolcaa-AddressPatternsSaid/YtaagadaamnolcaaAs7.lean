/-
  AddressPatterns, walked: from here to there. Condition: two rows of truths in memory.
-/
import Derived.Test.YtaagadaamnolcaaAs4
namespace Go.Proofs.Ytaagadaamnolcaa
open Go.RowKit Go.Deep Go.Sort

theorem pat_in (m : Int) (fi se o : Bool) : selF 3 0 3 0 m false false fi se o = (o || fi, (o || fi) && (!o || !se)) := by cases o <;> cases fi <;> cases se <;> rfl
theorem quiet_load_row {ops : Array Oper} {rest : List Oper} {o : Oper} {a : Act} {C : World → Prop} {Q : Act → Prop} (hw : Region.wanted o (yielded ops a.tmps) = true) (ty : TypeId) (x : Operand) (ho : o.op = .load ty x) (b f : Nat) (hx : a.eval x = .pointer (some ⟨b, f, none⟩)) (cs : List Value) (d : TypeDesc) (hS : ∀ w, C w → w.rangeAt b f cs)
    (hu : Try.prog.underlying ty = some d) (hd : d.isRow = true) (hi : (Try.prog.info? ty).map (·.size) = some cs.length) (h : wpQuiet Try.prog ops C Q rest (a.put o.dst (.agg cs.toArray))) : wpQuiet Try.prog ops C Q (o :: rest) a := by
  refine BigFrame.wpQuiet_want hw fun K hK => ⟨.agg cs.toArray, fun w hC => ?_, hK _ h⟩
  unfold Oper.quietAt
  rw [show (execOp a.eval o).run Try.prog w = .ok (.value (.agg cs.toArray)) w by
    unfold execOp
    simp only [ho, hx, Instr.loadAt, Instr.sureAddr, Sem.run_bind, Sem.run_pure, Result.andThen_ok, run_loadVar_mid w b f ty cs d (hS w hC) hu hd hi]]
  exact ⟨rfl, rfl⟩
theorem range_regrown {w : World} {b f : Nat} {cs : List Value} (h : w.rangeAt b f cs) : ∀ w', (∃ p : Regrown, w' = grow (redrawn w p.d) p.os) → w'.rangeAt b f cs := by
  rintro w' ⟨p, rfl⟩ j v hv
  exact cell_regrown (h j v hv) _ _
def bV (l : List Bool) : List Value := l.map .bool
theorem bV_get {l : List Bool} {i : Nat} {x : Bool} (h : l[i]? = some x) : (bV l)[i]? = some (.bool x) := by simp [bV, h]
/-- What holds where a round begins: both rows, the command's box. -/
structure PtJ (l1 l2 : List Bool) (A1 A2 : Option Addr) (b : Nat) (w W : World) : Prop where
  one : RawAt W A1 (bV l1)
  two : RawAt W A2 (bV l2)
  box : B1 (cmC 3 0 3 0 false) b w W
theorem PtJ.stays {l1 l2 : List Bool} {A1 A2 : Option Addr} {b : Nat} {w W W' : World} (h : PtJ l1 l2 A1 A2 b w W) (hb : Below W.heap.size W W') : PtJ l1 l2 A1 A2 b w W' :=
  ⟨h.one.below hb, h.two.below hb, h.box.stays hb⟩

set_option maxRecDepth 100000 in
set_option maxHeartbeats 8000000 in
theorem patterns_any {l1 l2 : List Bool} {c1 c2 : Nat} {A1 A2 : Option Addr} {w : World} (hr1 : RawAt w A1 (bV l1)) (hr2 : RawAt w A2 (bV l2)) : Calls Try.prog 6 #[.slice A1 l1.length c1, .slice A2 l2.length c2] w fun e w' => e = .returned (.bool true) ∧ Below w.heap.size w w' := by
  have HA := Lib.hid alive_is
  have HC := Lib.hid (command_is 3 0 3 0 false)
  have HS := Lib.hid (show ∀ (m : Int) (fi se o : Bool) (w : World), Calls Try.prog 10 #[.agg (cmC 3 0 3 0 false).toArray, .bool o, .agg #[.int .i64 m, .bool false, .bool fi, .bool se]] w fun e w' => e = .returned (.tuple #[.bool (o || fi), .bool ((o || fi) && (!o || !se))]) ∧ Below w.heap.size w w' from fun m fi se o w => by
    have h := selects_is 3 0 3 0 m false false fi se o w
    rw [pat_in] at h
    exact h)
  have HR1 := Lib.hid hr1
  have HR2 := Lib.hid hr2
  clear hr1 hr2
  go_enter Try.func6, Try.ntmps6
  go_wp2_with fail
  go_at_call 8
  with_reducible refine (HC.out _).mono ?_
  rintro e w1 ⟨rfl, hb1⟩
  have HB1 := Lib.hid hb1
  clear hb1
  go_upto_region 2 with (first | (refine wpList_alloc_cm rfl rfl ?_; intro Z hZ; have HZ := Lib.hid hZ; clear hZ) | (refine wpList_put_cm rfl (.tmp 5) (.tmp 13) rfl (f := 3) (fl := 0) (t := 3) (tl := 0) (nt := false) rfl rfl HZ.out ?_))
  obtain ⟨W, hW⟩ : ∃ W, W = w1.alloc (.cells (cmC 3 0 3 0 false).toArray 39) := ⟨_, rfl⟩
  obtain ⟨b, hb⟩ : ∃ b, b = w1.heap.size := ⟨_, rfl⟩
  have H0 := Lib.hid (show PtJ l1 l2 A1 A2 b w W by rw [hb, hW]; exact ⟨(HR1.out.below HB1.out).below (bW _ _), (HR2.out.below HB1.out).below (bW _ _), heap_alloc_new w1 _, HB1.out.alloc HB1.out.size _⟩)
  rw [← hW, ← hb]
  clear hW hb
  go_upto_region 5 with fail
  go_loopw [6, 7, 8] (fun ov wv nv wz => ∃ (o : Bool) (m : Nat), ov = .bool o ∧ wv = .bool o ∧ nv = .int .i64 (m : Int) ∧ Hid (m ≤ 60 ∧ m ≤ l1.length ∧ m ≤ l2.length ∧ PtJ l1 l2 A1 A2 b w wz)) (fun _ _ nv _ => 61 - (intOf nv).toNat)
  case atStart => exact ⟨false, 0, rfl, rfl, rfl, Lib.hid ⟨by omega, by omega, by omega, H0.out⟩⟩
  case round =>
    obtain ⟨o, m, rfl, rfl, rfl, HI⟩ := hrel
    have hm := HI.out.1
    by_cases h1 : m < l1.length
    case neg =>
      have d1 : decide ((m : Int) < (l1.length : Int)) = false := decide_eq_false (by omega)
      have d2 : decide (m < l1.length) = false := decide_eq_false h1
      have d3 : (l1.length : Int) ≤ (m : Int) := by omega
      have HB6 := Lib.hid HI.out.2.2.2.box.bel
      clear hm h1
      go_wp2_with fail
      go_at_call 11
      with_reducible refine (HA.out _).mono ?_
      rintro e w7 ⟨rfl, hb7⟩
      have HB7 := Lib.hid (HB6.out.trans (hb7.mono HB6.out.size))
      clear hb7
      go_wp2_with fail
      go_ret
      exact ⟨rfl, HB7.out⟩
    have d1 : decide ((m : Int) < (l1.length : Int)) = true := decide_eq_true (by omega)
    have d1n : decide (m < l1.length) = true := decide_eq_true h1
    by_cases h2 : m < l2.length
    case neg =>
      have d2 : decide ((m : Int) < (l2.length : Int)) = false := decide_eq_false (by omega)
      have d2n : decide (m < l2.length) = false := decide_eq_false h2
      have d3 : (l2.length : Int) ≤ (m : Int) := by omega
      have HB6 := Lib.hid HI.out.2.2.2.box.bel
      clear hm h1 h2
      go_wp2_with fail
      go_at_call 11
      with_reducible refine (HA.out _).mono ?_
      rintro e w7 ⟨rfl, hb7⟩
      have HB7 := Lib.hid (HB6.out.trans (hb7.mono HB6.out.size))
      clear hb7
      go_wp2_with fail
      go_ret
      exact ⟨rfl, HB7.out⟩
    have d2 : decide ((m : Int) < (l2.length : Int)) = true := decide_eq_true (by omega)
    have d2n : decide (m < l2.length) = true := decide_eq_true h2
    by_cases h3 : m < 60
    case neg =>
      have d3 : decide ((m : Int) < 60) = false := decide_eq_false (by omega)
      have d3n : decide (m < 60) = false := decide_eq_false h3
      have d4 : (60 : Int) ≤ (m : Int) := by omega
      have HB6 := Lib.hid HI.out.2.2.2.box.bel
      clear hm h1 h2 h3
      go_wp2_with fail
      go_at_call 11
      with_reducible refine (HA.out _).mono ?_
      rintro e w7 ⟨rfl, hb7⟩
      have HB7 := Lib.hid (HB6.out.trans (hb7.mono HB6.out.size))
      clear hb7
      go_wp2_with fail
      go_ret
      exact ⟨rfl, HB7.out⟩
    have d3 : decide ((m : Int) < 60) = true := decide_eq_true (by omega)
    have d3n : decide (m < 60) = true := decide_eq_true h3
    have HM := Lib.hid (show m < 60 ∧ m < l1.length ∧ m < l2.length from ⟨h3, h1, h2⟩)
    have e1 : IntKind.i64.wrap ((m : Int) + 1) = ((m + 1 : Nat) : Int) := by rw [IntWalk.i64_in _ (by omega)]; omega
    obtain ⟨fi, hfi⟩ : ∃ fi, l1[m]? = some fi := ⟨l1[m], by simp [h1]⟩
    obtain ⟨se, hse⟩ : ∃ se, l2[m]? = some se := ⟨l2[m], by simp [h2]⟩
    obtain ⟨g1, o1, rfl, k1⟩ := HI.out.2.2.2.one.cell (bV_get hfi)
    obtain ⟨g2, o2, rfl, k2⟩ := HI.out.2.2.2.two.cell (bV_get hse)
    have HSM := Lib.hid (HS.out ((m : Int) + 1) fi se o)
    clear hm h1 h2 h3 HS hfi hse
    go_upto_region 8 with fail
    have r1 := cell_regrown k1
    have r2 := cell_regrown k2
    have RS := Lib.hid (show ∀ (k : Nat) (os : Array Obj), Calls Try.prog 10 #[.agg (cmC 3 0 3 0 false).toArray, .bool o, .agg #[.int .i64 ((m : Int) + 1), .bool false, .bool fi, .bool se]] (grow (redrawn wr k) os) fun e w'' => e = .returned (.tuple #[.bool (o || fi), .bool ((o || fi) && (!o || !se))]) ∧ ∃ p : Regrown, w'' = grow (redrawn wr p.d) p.os from fun k os => Calls.regrown_of (HSM.out _))
    have HRG := Lib.hid (range_regrown (look_at HI.out.2.2.2.box.one))
    have q1 := HM.out.2.1
    have q2 := HM.out.2.2
    have q1i : (m : Int) < (l1.length : Int) := by omega
    have q2i : (m : Int) < (l2.length : Int) := by omega
    have q0 : (0 : Int) ≤ (m : Int) := by omega
    refine wp_region_quiet_below (by kernel_rfl) (by kernel_rfl) ?_
    refine quiet_load_row rfl 39 (.tmp 5) rfl b 0 rfl (cmC 3 0 3 0 false) _ HRG.out Try.underlying39 rfl size_cmd ?_
    simp only [Act.put, List.setIfInBounds_toArray, List.set_cons_succ, List.set_cons_zero]
    repeat (go_big_quiet_step (first | (with_reducible exact RS.out _ _)))
    refine wpQuiet_nil ?_
    rintro w5 ⟨⟨dq, osq⟩, rfl⟩
    have hb5 := below_regrown wr dq osq
    have H5 := Lib.hid (HI.out.2.2.2.stays hb5)
    have k1 := r1 dq osq
    have k2 := r2 dq osq
    clear hb5
    generalize grow (redrawn wr dq) osq = w5 at H5 k1 k2 ⊢
    clear r1 r2 RS HRG HSM
    cases o <;> cases fi <;> cases se
    all_goals
      go_wp2_with fail
      refine ⟨⟨_, m + 1, rfl, rfl, rfl, Lib.hid ⟨by have := HM.out; omega, by have := HM.out; omega, by have := HM.out; omega, H5.out⟩⟩, ?_⟩
      have := HM.out
      simp [intOf]
      omega
end Go.Proofs.Ytaagadaamnolcaa

/-
  A region that draws its order, whose last operations write a cell that the region loads: what yields its value wherever S holds may be taken first, and S need not hold any more behind the operations of R, each of which waits for all that was so taken. Conditions: those named at each law.
-/
import Derived.OrdersHeld
import Derived.RegionTactic
import Derived.Deep.MidRow
namespace Go.Proofs.Ytpfdlcogldbocaa
open Go
section
variable {P : Program} {ops : Array Oper} {Q : Exit → Act → World → Prop} {md : Region.Mode} {S : World → Prop} {R : Nat → Bool}

/-- Whichever operation comes next; S holds behind it, unless it is one of R. -/
def AnyR (P : Program) (md : Region.Mode) (ops : Array Oper) (Q : Exit → Act → World → Prop) (S : World → Prop) (R : Nat → Bool) : Nat → Array Bool → Act → World → Prop
  | 0, done, a, w => Region.ready md ops done = [] ∧ Q .normal a w
  | n + 1, done, a, w => (Region.ready md ops done = [] → Q .normal a w) ∧ ∀ i ∈ Region.ready md ops done, wpOp P ops Q i (fun b x => (R i = false → S x) ∧ AnyR P md ops Q S R n (done.setIfInBounds i true) b x) a w

theorem AnyR.plain : ∀ (n : Nat) (done : Array Bool) (a : Act) (w : World), AnyR P md ops Q S R n done a w → wpAny P md ops Q n done a w
  | 0, _, _, _, h => h
  | n + 1, _, _, _, h => ⟨h.1, fun i hi => wpOp_mono (fun b x hb => AnyR.plain n _ b x hb.2) (h.2 i hi)⟩

/-- Each operation of R waits for operation i itself. -/
def waitB (md : Region.Mode) (ops : Array Oper) (R : Nat → Bool) (i : Nat) : Bool :=
  (List.range ops.size).all fun j => !R j || j == i || ((ops[j]?).map fun o => o.after.any fun e => Region.binds md e && e.on == i).getD false

theorem not_ready_of_wait {i j : Nat} {done : Array Bool} (hw : waitB md ops R i = true) (hR : R j = true) (hne : j ≠ i) (hi : done.getD i true = false) : j ∉ Region.ready md ops done := by
  intro hj
  obtain ⟨_, o, ho, hall⟩ := mem_ready.1 hj
  have hlt : j < ops.size := (Array.getElem?_eq_some_iff.1 ho).1
  have h1 := List.all_eq_true.1 hw j (List.mem_range.2 hlt)
  rw [hR, ho] at h1
  simp only [Bool.not_true, Bool.false_or, Option.map_some, Option.getD_some, Bool.or_eq_true, beq_iff_eq] at h1
  rcases h1 with h1 | h1
  · exact hne h1
  · obtain ⟨e, he, hb⟩ := Array.any_eq_true'.1 h1
    simp only [Bool.and_eq_true, beq_iff_eq] at hb
    have h2 := hall e he hb.1
    rw [hb.2] at h2
    rcases Nat.lt_or_ge i done.size with h | h
    · simp [h] at hi h2
      rw [hi] at h2
      cases h2
    · simp [Array.getElem?_eq_none h] at hi

theorem AnyR.take_at {i : Nat} {oi : Oper} {v : Value} (hi : ops[i]? = some oi) (hns : Region.noSelect ops = true) (hw : waitB md ops R i = true)
    (hQ : ∀ c a w, Q (.panic c) (a.put oi.dst v) w → Q (.panic c) a w) :
    ∀ (n : Nat) (done : Array Bool) (a : Act) (w : World),
      (∀ j oj, ops[j]? = some oj → j ≠ i → done.getD j true = false → (∀ e ∈ oj.after, Region.binds md e = true → e.on ≠ i) → oi.apart ops oj = true) →
      i ∈ Region.ready md ops done → YieldsIf P ops S oi v a → S w → AnyR P md ops Q S R n (done.setIfInBounds i true) (a.put oi.dst v) w → AnyR P md ops Q S R (n + 1) done a w
  | 0, done, a, w, _, hr, hy, hS, H => by
    refine ⟨fun h => ?_, fun j hj => ?_⟩
    · rw [h] at hr; cases hr
    · by_cases e : j = i
      · subst e
        exact hy.wpOp hi hS ⟨fun _ => hS, H⟩
      · have h0 := ready_mono hj e
        rw [H.1] at h0
        cases h0
  | n + 1, done, a, w, hfree, hr, hy, hS, H => by
    refine ⟨fun h => ?_, fun j hj => ?_⟩
    · rw [h] at hr; cases hr
    · by_cases e : j = i
      · subst e
        exact hy.wpOp hi hS ⟨fun _ => hS, H⟩
      · obtain ⟨hjun, oj, hoj, hall⟩ := mem_ready.1 hj
        have hiun := (mem_ready.1 hr).1
        have hjR : R j = false := by
          cases hRj : R j with
          | false => rfl
          | true => exact absurd hj (not_ready_of_wait hw hRj e hiun)
        have hno : ∀ x ∈ oj.after, Region.binds md x = true → x.on ≠ i := by
          intro x hx hb hon
          have h1 := hall x hx hb
          rw [hon] at h1
          rcases Nat.lt_or_ge i done.size with h | h
          · simp [h] at hiun h1
            rw [hiun] at h1
            cases h1
          · simp [Array.getElem?_eq_none h] at hiun
        have h2 := wpOp_putIf hoj (hfree j oj hoj e hjun hno) (fun cs b => Region.noSelect_spec hns i oi cs b hi) (fun cs b => Region.noSelect_spec hns j oj cs b hoj) hQ hy (H.2 j (ready_mono hj e))
        refine wpOp_mono (fun b x hb => ⟨hb.2.1, ?_⟩) h2
        refine AnyR.take_at hi hns hw hQ n (done.setIfInBounds j true) b x (fun k ok hk hki hkun hkno => ?_) (ready_mono hr (Ne.symm e)) hb.1 (hb.2.1 hjR) ?_
        · refine hfree k ok hk hki ?_ hkno
          by_cases hjk : j = k
          · subst hjk; exact hjun
          · rwa [getD_set_ne true hjk] at hkun
        · rw [Array.setIfInBounds_comm _ _ e]
          exact hb.2.2

/-- An operation as far as its run looks at it. -/
def opIs (d : Option Tmp) (op : Op) (ty : TypeId) : Oper := { dst := d, op := op, type := ty, pos := "", after := #[], guard := .none }

theorem run_opIs {o : Oper} {d : Option Tmp} {op : Op} {ty : TypeId} (h : (o.dst, o.op, o.type, o.guard) = (d, op, ty, Option.none)) (ρ : Operand → Value) : execOp ρ o = execOp ρ (opIs d op ty) := by
  obtain ⟨d', op', ty', pos, aft, g⟩ := o
  simp only [Prod.mk.injEq] at h
  obtain ⟨rfl, rfl, rfl, rfl⟩ := h
  rfl

/-- Operation i, which may come up and yields v wherever S holds, is taken first. -/
theorem AnyR.take {i : Nat} (d : Option Tmp) (op : Op) (ty : TypeId) (v : Value) (done' : Array Bool) {n : Nat} {done : Array Bool} {a : Act} {w : World} (hi : (ops[i]?).map (fun o => (o.dst, o.op, o.type, o.guard)) = some (d, op, ty, .none)) (hns : Region.noSelect ops = true) (hf : Region.free md ops done i = true)
    (hr : (Region.ready md ops done).contains i = true) (hw : waitB md ops R i = true) (hd : done.setIfInBounds i true = done') (hQ : ∀ c a w, Q (.panic c) (a.put d v) w → Q (.panic c) a w) (hy : ∀ w, S w → (execOp a.eval (opIs d op ty)).run P w = .ok (.value v) w) (hS : S w)
    (h : AnyR P md ops Q S R n done' (a.put d v) w) : AnyR P md ops Q S R (n + 1) done a w := by
  cases ho : ops[i]? with
  | none => rw [ho] at hi; cases hi
  | some oi =>
    rw [ho] at hi
    simp only [Option.map_some, Option.some.injEq] at hi
    have hdd : oi.dst = d := (Prod.mk.inj hi).1
    have hg : oi.guard = .none := (Prod.mk.inj (Prod.mk.inj (Prod.mk.inj hi).2).2).2
    subst hd
    rw [← hdd] at hQ h
    exact AnyR.take_at ho hns hw hQ n done a w (Region.free_spec ho hf) (by simpa using hr) (.inl ⟨by simp [Region.wanted, hg], fun w hw' => by rw [run_opIs hi]; exact hy w hw'⟩) hS h

/-- The one operation that may come up. -/
theorem AnyR.one {i : Nat} (oi : Oper) (done' : Array Bool) {n : Nat} {done : Array Bool} {a : Act} {w : World} (hr : Region.ready md ops done = [i]) (hi : ops[i]? = some oi) (hd : done.setIfInBounds i true = done')
    (h : ∀ K : Act → World → Prop, (∀ b x, (R i = false → S x) → AnyR P md ops Q S R n done' b x → K b x) → if Region.wanted oi (yielded ops a.tmps) = true then Oper.wp P oi a w K Q else K (a.put oi.dst undef) w) : AnyR P md ops Q S R (n + 1) done a w := by
  subst hd
  refine ⟨fun h0 => ?_, fun j hj => ?_⟩
  · rw [hr] at h0; cases h0
  · rw [hr] at hj
    obtain rfl : j = i := by simpa using hj
    exact wpOp_step hi (fun K hK => h K (fun b x h1 h2 => hK b x ⟨h1, h2⟩))

/-- .. and yields v, leaving the world w'. -/
theorem AnyR.run {i : Nat} (d : Option Tmp) (op : Op) (ty : TypeId) (v : Value) (w' : World) (done' : Array Bool) {n : Nat} {done : Array Bool} {a : Act} {w : World} (hr : Region.ready md ops done = [i]) (hi : (ops[i]?).map (fun o => (o.dst, o.op, o.type, o.guard)) = some (d, op, ty, .none)) (hd : done.setIfInBounds i true = done')
    (hy : (execOp a.eval (opIs d op ty)).run P w = .ok (.value v) w') (hS : R i = false → S w') (h : AnyR P md ops Q S R n done' (a.put d v) w') : AnyR P md ops Q S R (n + 1) done a w := by
  cases ho : ops[i]? with
  | none => rw [ho] at hi; cases hi
  | some oi =>
    rw [ho] at hi
    simp only [Option.map_some, Option.some.injEq] at hi
    have hdd : oi.dst = d := (Prod.mk.inj hi).1
    have hg : oi.guard = .none := (Prod.mk.inj (Prod.mk.inj (Prod.mk.inj hi).2).2).2
    refine AnyR.one oi done' hr ho hd (fun K hK => ?_)
    rw [if_pos (by simp [Region.wanted, hg])]
    unfold Oper.wp
    rw [run_opIs hi, hy]
    exact hK _ _ hS (by rw [hdd]; exact h)
theorem AnyR.runSkip {i : Nat} (d : Option Tmp) (op : Op) (ty : TypeId) (w' : World) (done' : Array Bool) {n : Nat} {done : Array Bool} {a : Act} {w : World} (hr : Region.ready md ops done = [i]) (hi : (ops[i]?).map (fun o => (o.dst, o.op, o.type, o.guard)) = some (d, op, ty, .none)) (hd : done.setIfInBounds i true = done')
    (hy : (execOp a.eval (opIs d op ty)).run P w = .ok .skip w') (hS : R i = false → S w') (h : AnyR P md ops Q S R n done' (a.put d undef) w') : AnyR P md ops Q S R (n + 1) done a w := by
  cases ho : ops[i]? with
  | none => rw [ho] at hi; cases hi
  | some oi =>
    rw [ho] at hi
    simp only [Option.map_some, Option.some.injEq] at hi
    have hdd : oi.dst = d := (Prod.mk.inj hi).1
    have hg : oi.guard = .none := (Prod.mk.inj (Prod.mk.inj (Prod.mk.inj hi).2).2).2
    refine AnyR.one oi done' hr ho hd (fun K hK => ?_)
    rw [if_pos (by simp [Region.wanted, hg])]
    unfold Oper.wp
    rw [run_opIs hi, hy]
    exact hK _ _ hS (by rw [hdd]; exact h)

theorem AnyR.none {done : Array Bool} {a : Act} {w : World} (hr : Region.ready md ops done = []) (h : Q .normal a w) : ∀ n, AnyR P md ops Q S R n done a w
  | 0 => ⟨hr, h⟩
  | _ + 1 => ⟨fun _ => h, by rw [hr]; simp⟩

/-- The beginning. -/
theorem region_R (S : World → Prop) (R : Nat → Bool) (done : Array Bool) (n : Nat) {id : Nat} {a : Act} {w : World} (hm : P.follows .mixedOrders = true) (hn : ops.size = n) (hd : Array.replicate n false = done) (h : AnyR P .any ops Q S R n done a w.drew) : (Code.region id ops true).wp P Q a w := by
  subst hd
  subst hn
  exact wp_region_any hm (AnyR.plain _ _ _ _ h)

/-- An operation's run out of its instruction's run. -/
theorem val_of {s : Sem Value} {w w' : World} {v : Value} (h : s.run P w = .ok v w') : (do pure (.value (← s)) : Sem Next).run P w = .ok (.value v) w' := by
  simp [h, Result.andThen]
theorem skip_of {s : Sem Unit} {w w' : World} (h : s.run P w = .ok () w') : (do s; pure .skip : Sem Next).run P w = .ok .skip w' := by
  simp [h, Result.andThen]
end
end Go.Proofs.Ytpfdlcogldbocaa

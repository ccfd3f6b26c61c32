/-
  A region that draws its order, by a plan: what is the same in whatever world whenever it comes up; loads, of what stays until the stores; calls and stores, where nothing else can come up. Condition: the plan fits the region.
-/
import Derived.Test.YtncbmdbfdjhkeaaProg
import Derived.OrdersHeld
import Derived.Deep.RegionHeld
import Derived.RegionTactic
import Derived.StillTail
import Derived.KernelRfl
import Derived.ScopeJumps
namespace Go.Proofs.Ytncbmdbfdjhkeaa
section
variable {P : Program} {ops : Array Oper} {Q : Exit → Act → World → Prop} {S : World → Prop} {late : Nat → Bool}

/-- What is listed has what it waits for listed. -/
def Shut (ops : Array Oper) (listed : Array Bool) : Prop := ∀ j oj, ops[j]? = some oj → listed.getD j false = true → ∀ e ∈ oj.after, Region.binds .any e = true → listed.getD e.on false = true
/-- An operation waits for another one, by some steps. -/
def waits (ops : Array Oper) : Nat → Nat → Nat → Bool
  | 0, _, _ => false
  | n + 1, j, i => match ops[j]? with
    | some oj => oj.after.toList.any fun e => Region.binds .any e && (e.on == i || waits ops n e.on i)
    | none => false
theorem waits_listed {listed : Array Bool} (hc : Shut ops listed) {i : Nat} : ∀ (n j : Nat), waits ops n j i = true → (∃ oj, ops[j]? = some oj ∧ ∀ e ∈ oj.after, Region.binds .any e = true → listed.getD e.on false = true) → listed.getD i false = true
  | 0, j, h, _ => by cases h
  | n + 1, j, h, ⟨oj, hoj, hall⟩ => by
    unfold waits at h
    rw [hoj] at h
    obtain ⟨e, he, h2⟩ := List.any_eq_true.1 h
    simp only [Bool.and_eq_true, Bool.or_eq_true, beq_iff_eq] at h2
    have h3 := hall e (Array.mem_toList_iff.1 he) h2.1
    rcases h2.2 with h4 | h4
    · rw [← h4]; exact h3
    · cases hoe : ops[e.on]? with
      | none =>
        cases n with
        | zero => cases h4
        | succ n => unfold waits at h4; rw [hoe] at h4; cases h4
      | some oe => exact waits_listed hc n e.on h4 ⟨oe, hoe, hc e.on oe hoe h3⟩
theorem Shut.set {i : Nat} {listed : Array Bool} (hc : Shut ops listed) (hi : i ∈ Region.ready .any ops listed) : Shut ops (listed.setIfInBounds i true) := by
  obtain ⟨_, oi, hoi, hall⟩ := mem_ready.1 hi
  intro j oj hj hl e he hb
  by_cases hij : i = j
  · subst hij
    have : oj = oi := Option.some.inj (hj.symm.trans hoi)
    subst this
    exact getD_set_true (hall e he hb)
  · rw [getD_set_ne false hij] at hl
    exact getD_set_true (hc j oj hj hl e he hb)
/-- Whatever order is picked; S stays behind each operation that is not late. -/
def wpAnyK (P : Program) (ops : Array Oper) (Q : Exit → Act → World → Prop) (S : World → Prop) (late : Nat → Bool) : Nat → Array Bool → Act → World → Prop
  | 0, listed, a, w => Region.ready .any ops listed = [] ∧ Q .normal a w
  | fuel + 1, listed, a, w =>
    (Region.ready .any ops listed = [] → Q .normal a w) ∧
    ∀ i ∈ Region.ready .any ops listed, wpOp P ops Q i (fun a' w' => (late i = false → S w → S w') ∧ wpAnyK P ops Q S late fuel (listed.setIfInBounds i true) a' w') a w
theorem wpAny_of_K : ∀ (fuel : Nat) (listed : Array Bool) (a : Act) (w : World), wpAnyK P ops Q S late fuel listed a w → wpAny P .any ops Q fuel listed a w
  | 0, _, _, _, h => h
  | fuel + 1, _, _, _, h => ⟨h.1, fun i hi => wpOp_mono (fun a' w' h' => wpAny_of_K fuel _ a' w' h'.2) (h.2 i hi)⟩
/-- One that yields its value in every world of T may come first, where T holds whenever it comes up. -/
theorem wpAnyK_first {T : World → Prop} {i : Nat} {oi : Oper} {v : Value} (hi : ops[i]? = some oi) (hsel : ∀ (j : Nat) (o : Oper) cs b, ops[j]? = some o → o.op ≠ .select cs b) (hQ : ∀ c a w, Q (.panic c) (a.put oi.dst v) w → Q (.panic c) a w)
    (hT : ∀ (listed : Array Bool) (j : Nat) (w w' : World), Shut ops listed → i ∈ Region.ready .any ops listed → j ∈ Region.ready .any ops listed → T w → (late j = false → S w → S w') → T w') :
    ∀ (fuel : Nat) (listed : Array Bool) (a : Act) (w : World), Shut ops listed →
      (∀ j oj, ops[j]? = some oj → j ≠ i → listed.getD j true = false → (∀ e ∈ oj.after, Region.binds .any e = true → e.on ≠ i) → oi.apart ops oj = true) →
      i ∈ Region.ready .any ops listed → YieldsIf P ops T oi v a → T w →
      wpAnyK P ops Q S late fuel (listed.setIfInBounds i true) (a.put oi.dst v) w → wpAnyK P ops Q S late (fuel + 1) listed a w := by
  intro fuel
  induction fuel with
  | zero =>
    intro listed a w _ _ hr hy hS H
    refine ⟨fun h => (by rw [h] at hr; cases hr), fun j hj => ?_⟩
    by_cases hji : j = i
    · subst hji; exact hy.wpOp hi hS ⟨fun _ h => h, H⟩
    · have := ready_mono hj hji
      rw [H.1] at this
      cases this
  | succ fuel ih =>
    intro listed a w hcl hfree hr hy hS H
    refine ⟨fun h => (by rw [h] at hr; cases hr), fun j hj => ?_⟩
    by_cases hji : j = i
    · subst hji; exact hy.wpOp hi hS ⟨fun _ h => h, H⟩
    · have h1 := H.2 j (ready_mono hj hji)
      obtain ⟨hjun, oj, hoj, hall⟩ := mem_ready.1 hj
      have hiun := (mem_ready.1 hr).1
      have hnot : ∀ e ∈ oj.after, Region.binds .any e = true → e.on ≠ i := fun e he hb heq => by
        have h1 := hall e he hb
        rw [heq, getD_both hiun] at h1
        cases h1
      have h2 := wpOp_putIf hoj (hfree j oj hoj hji hjun hnot) (fun cs b => hsel i oi cs b hi) (fun cs b => hsel j oj cs b hoj) hQ hy h1
      have hfree' : ∀ k ok, ops[k]? = some ok → k ≠ i → (listed.setIfInBounds j true).getD k true = false →
          (∀ e ∈ ok.after, Region.binds .any e = true → e.on ≠ i) → oi.apart ops ok = true := fun k ok hk hki hun hno => by
        refine hfree k ok hk hki ?_ hno
        by_cases hjk : j = k
        · subst hjk; exact hjun
        · rw [getD_set_ne true hjk] at hun; exact hun
      refine wpOp_mono (fun a' w' h3 => ⟨h3.2.1, ih (listed.setIfInBounds j true) a' w' (hcl.set hj) hfree' (ready_mono hr (Ne.symm hji)) h3.1 (hT listed j w w' hcl hr hj hS h3.2.1) ?_⟩) h2
      rw [Array.setIfInBounds_comm _ _ hji]
      exact h3.2.2
/-- A plan's step: what is the same in whatever world; a load; what comes up alone. -/
inductive Sp where
  | p (i : Nat)
  | l (i : Nat)
  | o (i : Nat)
def planB (ops : Array Oper) (lates : List Nat) : List Sp → Array Bool → Bool
  | [], listed => (Region.ready .any ops listed).isEmpty
  | .p i :: r, listed => (Region.ready .any ops listed).contains i && Region.free .any ops listed i && planB ops lates r (listed.setIfInBounds i true)
  | .l i :: r, listed => (Region.ready .any ops listed).contains i && Region.free .any ops listed i && lates.all (fun j => waits ops ops.size j i) && planB ops lates r (listed.setIfInBounds i true)
  | .o k :: r, listed => decide (Region.ready .any ops listed = [k]) && planB ops lates r (listed.setIfInBounds k true)
def wpPlan (P : Program) (ops : Array Oper) (Q : Exit → Act → World → Prop) (S : World → Prop) (late : Nat → Bool) : List Sp → Act → World → Prop
  | [], a, w => Q .normal a w
  | .p i :: r, a, w => ∃ o v, ops[i]? = some o ∧ YieldsIf P ops (fun _ => True) o v a ∧ wpPlan P ops Q S late r (a.put o.dst v) w
  | .l i :: r, a, w => S w ∧ ∃ o v, ops[i]? = some o ∧ YieldsIf P ops S o v a ∧ wpPlan P ops Q S late r (a.put o.dst v) w
  | .o k :: r, a, w => wpOp P ops Q k (fun a' w' => (late k = false → S w → S w') ∧ wpPlan P ops Q S late r a' w') a w
theorem wpAnyK_of_plan {lates : List Nat} (hsel : Region.noSelect ops = true) (hQ : ∀ c a d v w, Q (.panic c) (a.put d v) w → Q (.panic c) a w) : ∀ (ps : List Sp) (listed : Array Bool) (a : Act) (w : World), Shut ops listed → planB ops lates ps listed = true →
    wpPlan P ops Q S (fun j => lates.contains j) ps a w → wpAnyK P ops Q S (fun j => lates.contains j) ps.length listed a w
  | [], listed, a, w, _, hB, h => ⟨by simpa [planB] using hB, h⟩
  | .p i :: r, listed, a, w, hc, hB, ⟨o, v, ho, hy, h⟩ => by
    simp only [planB, Bool.and_eq_true] at hB
    obtain ⟨⟨hr, hf⟩, hB'⟩ := hB
    have hr' : i ∈ Region.ready .any ops listed := by simpa using hr
    exact wpAnyK_first (T := fun _ => True) ho (Region.noSelect_spec hsel) (fun c a' w' h => hQ c _ _ _ w' h) (fun _ _ _ _ _ _ _ _ _ => trivial) _ listed a w hc (Region.free_spec ho hf) hr' hy trivial
      (wpAnyK_of_plan hsel hQ r _ _ w (hc.set hr') hB' h)
  | .l i :: r, listed, a, w, hc, hB, ⟨hS, o, v, ho, hy, h⟩ => by
    simp only [planB, Bool.and_eq_true] at hB
    obtain ⟨⟨⟨hr, hf⟩, hl⟩, hB'⟩ := hB
    have hr' : i ∈ Region.ready .any ops listed := by simpa using hr
    refine wpAnyK_first (T := S) ho (Region.noSelect_spec hsel) (fun c a' w' h => hQ c _ _ _ w' h) (fun li j x x' hcl hri hj hx hk => hk ?_ hx) _ listed a w hc (Region.free_spec ho hf) hr' hy hS
      (wpAnyK_of_plan hsel hQ r _ _ w (hc.set hr') hB' h)
    cases hlj : lates.contains j with
    | false => rfl
    | true =>
      obtain ⟨hjun, oj, hoj, hall⟩ := mem_ready.1 hj
      have h1 := waits_listed hcl _ j (List.all_eq_true.1 hl j (by simpa using hlj)) ⟨oj, hoj, hall⟩
      rw [getD_both (mem_ready.1 hri).1] at h1
      cases h1
  | .o k :: r, listed, a, w, hc, hB, h => by
    simp only [planB, Bool.and_eq_true, decide_eq_true_eq] at hB
    refine ⟨fun h1 => (by rw [hB.1] at h1; cases h1), fun i hi => ?_⟩
    have hi2 := hi
    rw [hB.1] at hi
    have hik : i = k := by simpa using hi
    subst hik
    exact wpOp_mono (fun a' w' h' => ⟨h'.1, wpAnyK_of_plan hsel hQ r _ a' w' (hc.set hi2) hB.2 h'.2⟩) h
theorem plan_p {i : Nat} {r : List Sp} {a : Act} {w : World} {o : Oper} {v : Value} (ho : ops[i]? = some o) (hw : Region.wanted o (yielded ops a.tmps) = true) (hy : ∀ w, (execOp a.eval o).run P w = .ok (.value v) w) (h : wpPlan P ops Q S late r (a.put o.dst v) w) : wpPlan P ops Q S late (.p i :: r) a w := ⟨o, v, ho, .inl ⟨hw, fun w _ => hy w⟩, h⟩
theorem plan_skip {i : Nat} {r : List Sp} {a : Act} {w : World} {o : Oper} (ho : ops[i]? = some o) (hw : Region.wanted o (yielded ops a.tmps) = false) (h : wpPlan P ops Q S late r (a.put o.dst undef) w) : wpPlan P ops Q S late (.p i :: r) a w := ⟨o, undef, ho, .inr ⟨hw, rfl⟩, h⟩
theorem plan_l {i : Nat} {r : List Sp} {a : Act} {w : World} {o : Oper} {v : Value} (hS : S w) (ho : ops[i]? = some o) (hw : Region.wanted o (yielded ops a.tmps) = true) (hy : ∀ w, S w → (execOp a.eval o).run P w = .ok (.value v) w) (h : wpPlan P ops Q S late r (a.put o.dst v) w) : wpPlan P ops Q S late (.l i :: r) a w := ⟨hS, o, v, ho, .inl ⟨hw, hy⟩, h⟩
theorem plan_ls {i : Nat} {r : List Sp} {a : Act} {w : World} {o : Oper} (hS : S w) (ho : ops[i]? = some o) (hw : Region.wanted o (yielded ops a.tmps) = false) (h : wpPlan P ops Q S late r (a.put o.dst undef) w) : wpPlan P ops Q S late (.l i :: r) a w := ⟨hS, o, undef, ho, .inr ⟨hw, rfl⟩, h⟩
theorem plan_o {k : Nat} {r : List Sp} {a : Act} {w : World} {o : Oper} (ho : ops[k]? = some o) (h : ∀ K : Act → World → Prop, (∀ a' w', (late k = false → S w → S w') ∧ wpPlan P ops Q S late r a' w' → K a' w') → if Region.wanted o (yielded ops a.tmps) = true then Oper.wp P o a w K Q else K (a.put o.dst undef) w) : wpPlan P ops Q S late (.o k :: r) a w := wpOp_step ho h
theorem plan_os {k : Nat} {r : List Sp} {a : Act} {w : World} {o : Oper} (ho : ops[k]? = some o) (hw : Region.wanted o (yielded ops a.tmps) = false) (h : wpPlan P ops Q S late r (a.put o.dst undef) w) : wpPlan P ops Q S late (.o k :: r) a w := plan_o ho fun K hK => by
  rw [if_neg (by rw [hw]; exact Bool.false_ne_true)]
  exact hK _ _ ⟨fun _ h => h, h⟩
theorem plan_end {a : Act} {w : World} (h : Q .normal a w) : wpPlan P ops Q S late [] a w := h
/-- A panic's post does not hang on the frame's slots. -/
theorem plan_body {fn : Func} {R : Ending → World → Prop} (c : List PanicEntry) (a : Act) (d : Option Tmp) (v : Value) (w : World) (h : bodyPost P fn R (.panic c) (a.put d v) w) : bodyPost P fn R (.panic c) a w := by
  have e : (a.put d v).defers = a.defers := by cases d <;> rfl
  obtain ⟨h1, h2⟩ := h
  exact ⟨e ▸ h1, h2⟩
theorem pq_body {fn : Func} {R : Ending → World → Prop} : ∀ c a d v w, bodyPost P fn R (.panic c) (a.put d v) w → bodyPost P fn R (.panic c) a w := fun c a d v w h => plan_body c a d v w h
theorem pq_then {K : Act → World → Prop} (h : ∀ c a d v w, Q (.panic c) (a.put d v) w → Q (.panic c) a w) : ∀ c a d v w, Exit.then K Q (.panic c) (a.put d v) w → Exit.then K Q (.panic c) a w := h
theorem pq_jump {l : Nat} {J : Act → World → Prop} (h : ∀ c a d v w, Q (.panic c) (a.put d v) w → Q (.panic c) a w) : ∀ c a d v w, Exit.jump l J Q (.panic c) (a.put d v) w → Exit.jump l J Q (.panic c) a w := h
theorem pq_block {l : Nat} (h : ∀ c a d v w, Q (.panic c) (a.put d v) w → Q (.panic c) a w) : ∀ c a d v w, Exit.inBlock l Q (.panic c) (a.put d v) w → Exit.inBlock l Q (.panic c) a w := h
theorem wp_region_plan (S : World → Prop) (ps : List Sp) (lates : List Nat) {id : Nat} {a : Act} {w : World} (hm : P.follows .mixedOrders = true) (hn : ps.length = ops.size) (hsel : Region.noSelect ops = true) (hQ : ∀ c a d v w, Q (.panic c) (a.put d v) w → Q (.panic c) a w) (hB : planB ops lates ps (Array.replicate ops.size false) = true)
    (h : wpPlan P ops Q S (fun j => lates.contains j) ps a w.drew) : (Code.region id ops true).wp P Q a w := by
  refine wp_region_any hm (wpAny_of_K (S := S) (late := fun j => lates.contains j) _ _ _ _ ?_)
  have := wpAnyK_of_plan (Q := Q) hsel hQ ps (Array.replicate ops.size false) a w.drew (fun j oj _ hl => by rw [getD_replicate_false] at hl; cases hl) hB h
  rw [hn] at this
  exact this
end
end Go.Proofs.Ytncbmdbfdjhkeaa

/-
  A range over a function whose loop variable lies in a box of its own, one for each round. Conditions: the iterator keeps its contract; what a round keeps is the iterator's choice; the caller's facts speak of cells, and of what lay ahead of the loop.
  Regions that draw their order, inside a fence, by what holds whichever operations are done; and one more element put behind a row that a box holds. No condition.
-/
import Derived.Test.YtcjbhjbjkfgphaaNseq
import Derived.RangeFuncBox
import Derived.StillTail
import Derived.RegionTactic
import Derived.KernelRfl
namespace Go.Proofs.Ytcjbhjbjkfgphaa
open Go.RowKit Go.Deep Go.Shelf

/-- The loop's two own blocks: for the rounds' deferred calls, and its record. -/
def Two (B : Nat) (r : Loop) (W : World) : Prop := W.heap[B]? = some (.deferred (some [])) ∧ W.heap[B + 1]? = some (.loop r)
theorem Two.grown {B : Nat} {r : Loop} {W W' : World} {row : Option Nat} (h : Two B r W) (hg : W.grownBy W' row) (hr : ∀ k, row = some k → ∃ o : Obj, W.heap[k]? = some o ∧ o.isWalk = true) : Two B r W' := by
  have key : ∀ (k : Nat) (o : Obj), W.heap[k]? = some o → o.isWalk = false → W'.heap[k]? = some o := fun k o hk ho => by
    refine (hg.block k (Array.getElem?_eq_some_iff.1 hk).1 fun e => ?_).trans hk
    obtain ⟨o', h1, h2⟩ := hr k e.symm
    rw [hk] at h1
    cases h1
    rw [ho] at h2
    cases h2
  exact ⟨key _ _ h.1 rfl, key _ _ h.2 rfl⟩
theorem Two.alloc {B : Nat} {r : Loop} {W : World} (h : Two B r W) (o : Obj) : Two B r (W.alloc o) := h.grown (World.grownBy_alloc W o none) (fun k e => by cases e)
theorem Two.others {B : Nat} {r : Loop} {W W' : World} (h : Two B r W) (hk : KeepsOthers W W') : Two B r W' := ⟨hk.same _ _ h.1 rfl, hk.same _ _ h.2 rfl⟩
theorem Two.put {B : Nat} {r : Loop} {W : World} (h : Two B r W) (r' : Loop) : Two B r' (W.putObj (B + 1) (.loop r')) :=
  ⟨(World.putObj_heap_other (by omega)).trans h.1, World.putObj_heap_same (Array.getElem?_eq_some_iff.1 h.2).1⟩

section
variable {α : Type} {P : Program} {n : Nat}
/-- The loop's record in a state. -/
def recOf (f : FuncId) (a : Act) (ps : Array Tmp) (assign body : Code) (B : Nat) (st : LoopState) (pe : Option Code) : Loop := { state := st, pending := pe, fn := f, tmps := a.tmps, params := ps, assign := assign, body := body, defers := B }
/-- How a round ends, of a loop whose record is told. -/
theorem round_ends {B : Nat} {f : FuncId} {a : Act} {ps : Array Tmp} {assign body : Code} {W : World} (j : Option Code) (h : Two B (recOf f a ps assign body B .busy none) W) :
    (Instr.endRound (B + 1) j).run P W = .ok (.bool j.isNone) (W.putObj (B + 1) (.loop (recOf f a ps assign body B (if j.isNone then .ready else .done) j))) ∧
    Two B (recOf f a ps assign body B (if j.isNone then .ready else .done) j) (W.putObj (B + 1) (.loop (recOf f a ps assign body B (if j.isNone then .ready else .done) j))) :=
  ⟨run_endRound (P := P) j h.2, h.put _⟩
/-- What a round's body leaves. -/
def boxPost (Kp : World → World → Prop) (I : List α → World → Prop) (Ix : Code → List α → World → Prop) (xs : List α) (W : World) : Exit → Act → World → Prop
  | .normal, _, W' => KeepsOthers W W' ∧ Kp W W' ∧ I xs W'
  | .exit id, _, W' => KeepsOthers W W' ∧ Ix (.exit id) xs W'
  | _, _, _ => False

set_option maxHeartbeats 400000 in
theorem range_boxed {g : Operand} {ps : Array Tmp} {assign body : Code} {Q : Exit → Act → World → Prop} {a : Act} {w : World} (h1 : 1 ≤ n) {gf : Nat} {lb : Array Value} (hg : a.eval g = .func (.func gf) #[] lb) (eg : ∀ args w, (callFunc gf args).run P w = .ok (.enter gf args) w)
    {encs : α → Array Value} {Kp : World → World → Prop} {S Sp : List α → Prop} {N : Nat} {w0 : World} (hseq : SeqStopsK Fence.wide (n - 1) P gf lb encs Kp S Sp N w0) (hb0 : Below w0.heap.size w0 w) (hps : ∀ x, (encs x).size = ps.size)
    (hKt : ∀ {A B C : World}, Kp A B → Kp B C → Kp A C) (hKb : ∀ (W : World) (l : Nat) (o o' : Obj), w.heap.size ≤ l → W.heap[l]? = some o → o.isCells = false → o.isWalk = false → Kp W (W.putObj l o')) (hKa : ∀ (W : World) (o : Obj), w.heap.size ≤ W.heap.size → Kp W (W.alloc o))
    (I : List α → World → Prop) (Ix : Code → List α → World → Prop) (hI : OwnFrom w.heap.size I) (hIx : ∀ c, OwnFrom w.heap.size (Ix c)) (h0 : I [] w) (a₁ : α → Nat → Act) (ob : α → Obj) (_hob : ∀ x, (ob x).isCells = true)
    (hassign : ∀ (l : Nat) (x : α) (W : World) (K : Act → World → Prop), K (a₁ x W.heap.size) (W.alloc (ob x)) →
      assign.wpIn (Fence.wide.inRound l) (n - 1 - 1) P (Exit.then K (fun _ _ _ => False)) { tmps := (ps.zip (encs x)).foldl (fun t (p, v) => t.setIfInBounds p v) a.tmps, defers := [] } W)
    (hbody : ∀ (l : Nat) (pre : List α) (x : α) (b : Nat) (W : World), I pre W → pre.length < N → w.heap.size ≤ b → W.heap[b]? = some (ob x) → body.wpIn (Fence.wide.inRound l) (n - 1 - 1) P (boxPost Kp I Ix (pre ++ [x]) W) (a₁ x b) W)
    (hdone : ∀ (xs : List α) (W : World), S xs → I xs W → W.heap[w.heap.size]? = some (.deferred (some [])) → Q .normal { a with defers := { target := .collected w.heap.size, args := #[] } :: a.defers } W)
    (hstop : ∀ (c : Code) (pre : List α) (W : World), Sp pre → Ix c pre W → W.heap[w.heap.size]? = some (.deferred (some [])) → c.wpIn Fence.wide n P Q { a with defers := { target := .collected w.heap.size, args := #[] } :: a.defers } W) :
    (Code.rangeFunc g ps assign body).wpIn Fence.wide n P Q a w := by
  refine wpIn_rangeFunc ?_
  intro f _
  rw [wide_round]
  have hin := run_enterLoop_outer (P := P) (w := w) f a.tmps ps assign body
  obtain ⟨W1, eW1⟩ : ∃ W1, W1 = (w.alloc (.deferred (some []))).alloc (.loop (recOf f a ps assign body w.heap.size .ready none)) := ⟨_, rfl⟩
  have hW1 : Two w.heap.size (recOf f a ps assign body w.heap.size .ready none) W1 := by
    rw [eW1]
    refine ⟨(heap_alloc_old _ _ _ (by simp)).trans (heap_alloc_new w _), ?_⟩
    have h := heap_alloc_new (w.alloc (.deferred (some []))) (.loop (recOf f a ps assign body w.heap.size .ready none))
    simpa only [World.size_alloc] using h
  have hs1 : W1.heap.size = w.heap.size + 2 := by rw [eW1]; simp
  have hI1 : I [] W1 := by rw [eW1]; exact hI.alloc _ (hI.alloc _ h0)
  have hb1 : Below w0.heap.size w0 W1 := by
    rw [eW1]
    exact hb0.trans ((((Below.refl _ w).alloc (Nat.le_refl _) _).alloc (by simp) _).mono hb0.size)
  -- what holds between two rounds, and behind the last one
  obtain ⟨J, eJ⟩ : ∃ J : List α → World → Prop, J = fun pre W => I pre W ∧ Two w.heap.size (recOf f a ps assign body w.heap.size .ready none) W := ⟨_, rfl⟩
  obtain ⟨Jx, eJx⟩ : ∃ Jx : List α → World → Prop, Jx = fun pre W => ∃ c, Ix c pre W ∧ Two w.heap.size (recOf f a ps assign body w.heap.size .done (some c)) W := ⟨_, rfl⟩
  have walkOwn : ∀ {A : World} {row : Option Nat}, (∀ r, row = some r → W1.heap.size ≤ r ∧ ∃ o : Obj, A.heap[r]? = some o ∧ o.isWalk = true) → ∀ r, row = some r → w.heap.size ≤ r ∧ ∃ o : Obj, A.heap[r]? = some o ∧ o.isCells = false := fun h r e => by
    obtain ⟨k1, o, k2, k3⟩ := h r e
    exact ⟨by omega, o, k2, Obj.not_cells_of_walk k3⟩
  have hJ : AbidesFrom W1.heap.size J := by
    rw [eJ]
    exact fun s A B row h hg hr => ⟨hI s A B row h.1 hg (walkOwn hr), h.2.grown hg (fun r e => (hr r e).2)⟩
  have hJx : AbidesFrom W1.heap.size Jx := by
    rw [eJx]
    rintro s A B row ⟨c, hc, h⟩ hg hr
    exact ⟨c, hIx c s A B row hc hg (walkOwn hr), h.grown hg (fun r e => (hr r e).2)⟩
  have hround : ∀ pre x W, J pre W → pre.length < N → YieldAt Fence.wide (n - 1 - 1) P (w.heap.size + 1) (encs x) W fun e W' =>
      (e = .returned (.bool true) ∧ J (pre ++ [x]) W' ∧ Kp W W') ∨ (e = .returned (.bool false) ∧ Jx (pre ++ [x]) W') := by
    rw [eJ, eJx]
    rintro pre x W ⟨hi, ht⟩ hlen
    have hlt : w.heap.size + 1 < W.heap.size := (Array.getElem?_eq_some_iff.1 ht.2).1
    refine ⟨f, _, assign, body, run_yield (P := P) ht.2 (hps x), roundIn_of_wpIn (wide_fn _) (hassign _ x W _ ?_)⟩
    have ht2 := ht.alloc (ob x)
    have hi2 := hI.alloc (ob x) hi
    obtain ⟨V, eV⟩ : ∃ V, V = (W.alloc (ob x)).putObj (w.heap.size + 1) (.loop (recOf f a ps assign body w.heap.size .busy none)) := ⟨_, rfl⟩
    have ht3 : Two w.heap.size (recOf f a ps assign body w.heap.size .busy none) V := by rw [eV]; exact ht2.put _
    have hi3 : I pre V := by rw [eV]; exact hI.putObj _ hi2 (by omega) ht2.2 rfl
    have hk3 : Kp W V := by
      rw [eV]
      exact hKt (hKa W _ (by omega)) (hKb _ _ _ _ (by omega) ht2.2 rfl rfl)
    have hb3 : V.heap[W.heap.size]? = some (ob x) := by
      rw [eV]
      exact (World.putObj_heap_other (by omega)).trans (heap_alloc_new W _)
    refine ⟨V, by rw [eV]; exact run_beginRound ht2.2 rfl, wpIn_mono (hbody _ pre x W.heap.size V hi3 hlen (by omega) hb3) ?_⟩
    rintro e a3 W3 hp
    cases e with
    | normal =>
      obtain ⟨ko, kp, ki⟩ := hp
      have ht4 := ht3.others ko
      obtain ⟨hr, ht5⟩ := round_ends (P := P) none ht4
      exact ⟨_, _, hr, .inl ⟨rfl, ⟨hI.putObj _ ki (by omega) ht4.2 rfl, ht5⟩, hKt (hKt hk3 kp) (hKb _ _ _ _ (by omega) ht4.2 rfl rfl)⟩⟩
    | exit id =>
      obtain ⟨ko, ki⟩ := hp
      have ht4 := ht3.others ko
      obtain ⟨hr, ht5⟩ := round_ends (P := P) (some (.exit id)) ht4
      exact ⟨_, _, hr, .inr ⟨rfl, .exit id, (hIx _).putObj _ ki (by omega) ht4.2 rfl, ht5⟩⟩
    | ret => exact hp.elim
    | goto t => exact hp.elim
    | panic ch => exact hp.elim
    | outgrown => exact hp.elim
  have hcall := hseq (w.heap.size + 1) J Jx W1 hb1 hJ hJx hround (by rw [eJ]; exact ⟨hI1, hW1⟩)
  refine ⟨w.heap.size + 1, [{ target := .collected w.heap.size, args := #[] }], W1, { target := .fn (.func gf) lb, args := #[.func (.yield (w.heap.size + 1)) #[] #[]] }, W1, gf, #[.func (.yield (w.heap.size + 1)) #[] #[]] ++ lb, W1, ?_, ?_, ?_, ?_, fun _ => h1, ?_⟩
  · rw [eW1]
    exact hin
  · simp only [resolve, hg]
    simp [go_sem]
  · intro f' hf'
    exact wide_fn f'
  · simp [invoke, go_sem, eg]
  · refine hcall.mono ?_
    rw [eJ, eJx]
    rintro e W2 ⟨⟨v, rfl⟩, (⟨xs, hS, hi, ht⟩ | ⟨pre, hSp, c, hi, ht⟩)⟩
    · exact ⟨none, _, run_endLoop (P := P) ht.2 (by simp [recOf]), hdone xs _ hS (hI.putObj _ hi (by omega) ht.2 rfl) (ht.put _).1⟩
    · exact ⟨some c, _, run_endLoop (P := P) ht.2 (by simp [recOf]), hstop c pre _ hSp ((hIx c).putObj _ hi (by omega) ht.2 rfl) (ht.put _).1⟩
end
end Go.Proofs.Ytcjbhjbjkfgphaa

namespace Go.Proofs.Ytcjbhjbjkfgphaa
open Go.RowKit Go.Deep Go.Shelf

section
variable {P : Program} {ops : Array Oper} {Q : Exit → Act → World → Prop} {F : Fence} {n : Nat}
/-- Each operation waits for earlier ones alone. -/
def earlierB (ops : Array Oper) : Bool := (List.range ops.size).all fun i => ((ops[i]?).map fun o => o.after.all fun e => decide (e.on < i)).getD true
/-- What an operation that is done waits for is done. -/
def Shut (ops : Array Oper) (ℓ : Array Bool) : Prop := ∀ (j : Nat) (o : Oper), ops[j]? = some o → ℓ.getD j false = true → ∀ e ∈ o.after, Region.binds .any e = true → ℓ.getD e.on false = true
theorem flag_of {ℓ : Array Bool} {i k : Nat} (h : i ≠ k) (hk : (ℓ.setIfInBounds i true).getD k false = true) : ℓ.getD k false = true := by rwa [getD_set_ne false h] at hk
theorem flag_keep {ℓ : Array Bool} {i k : Nat} (hk : ℓ.getD k false = true) : (ℓ.setIfInBounds i true).getD k false = true := by
  by_cases h : i = k
  · subst h
    have hlt : i < ℓ.size := by
      apply Nat.lt_of_not_le
      intro hle
      rw [Array.getD_eq_getD_getElem?, Array.getElem?_eq_none hle] at hk
      cases hk
    simp [hlt]
  · rw [getD_set_ne false h]; exact hk
theorem flag_now {ℓ : Array Bool} {i : Nat} (h : i < ℓ.size) : (ℓ.setIfInBounds i true).getD i false = true := by simp [h]
theorem Shut.set {ℓ : Array Bool} {i : Nat} (h : Shut ops ℓ) (hi : i ∈ Region.ready .any ops ℓ) : Shut ops (ℓ.setIfInBounds i true) := by
  intro j o ho hj e he hb
  by_cases hij : i = j
  · subst hij
    obtain ⟨_, o', ho', hall⟩ := mem_ready.1 hi
    rw [ho] at ho'
    cases ho'
    exact flag_keep (hall e he hb)
  · exact flag_keep (h j o ho (flag_of hij hj) e he hb)
theorem Shut.dep {ℓ : Array Bool} (h : Shut ops ℓ) {j k : Nat} (hj : ℓ.getD j false = true) (hw : Region.waitsFor .any ops j k = true) : ℓ.getD k false = true := by
  obtain ⟨oj, hoj, e, he, hb, hon⟩ := Region.waitsFor_spec hw
  rw [← hon]
  exact h j oj hoj hj e he hb
theorem Shut.start : Shut ops (Array.replicate ops.size false) := fun j o _ hj => by
  rw [getD_replicate_false] at hj
  cases hj
theorem ready_dep {ℓ : Array Bool} {i k : Nat} (hi : i ∈ Region.ready .any ops ℓ) (h : Region.waitsFor .any ops i k = true) : ℓ.getD k false = true := by
  obtain ⟨_, o, ho, hall⟩ := mem_ready.1 hi
  obtain ⟨oj, hoj, e, he, hb, hon⟩ := Region.waitsFor_spec h
  rw [hoj] at ho
  cases ho
  rw [← hon]
  exact hall e he hb
/-- What waits, step by step, for one that is not done is not done. -/
theorem Shut.not {ℓ : Array Bool} {i k : Nat} (hi : i ∈ Region.ready .any ops ℓ) (h : ℓ.getD k false = true → ℓ.getD i false = true) : ℓ.getD k false = false := by
  cases hk : ℓ.getD k false with
  | false => rfl
  | true =>
    have h1 := h hk
    rw [getD_both (mem_ready.1 hi).1] at h1
    cases h1
theorem all_done (hB : earlierB ops = true) {ℓ : Array Bool} (hs : ℓ.size = ops.size) (hr : Region.ready .any ops ℓ = []) : ∀ i, i < ops.size → ℓ.getD i false = true := by
  intro i
  induction i using Nat.strongRecOn with
  | _ i ih =>
    intro hi
    cases hl : ℓ.getD i false with
    | true => rfl
    | false =>
      exfalso
      have hm : i ∈ Region.ready .any ops ℓ := by
        refine mem_ready.2 ⟨getD_in (by omega) hl, ops[i]'hi, Array.getElem?_eq_getElem hi, fun e he _ => ?_⟩
        have h1 := List.all_eq_true.1 hB i (List.mem_range.2 hi)
        rw [Array.getElem?_eq_getElem hi] at h1
        simp only [Option.map_some, Option.getD_some] at h1
        have h3 : e.on < i := by simpa using Array.all_eq_true'.1 h1 e he
        exact ih e.on h3 (by omega)
      rw [hr] at hm
      cases hm
theorem falses_set {l : List Bool} {i : Nat} (h : l[i]? = some false) : (l.set i true).count false + 1 = l.count false := by
  induction l generalizing i with
  | nil => simp at h
  | cons x l ih =>
    cases i with
    | zero =>
      simp at h
      subst h
      simp
    | succ i =>
      have := ih (i := i) (by simpa using h)
      simp only [List.set_cons_succ, List.count_cons]
      omega
theorem any_inv_in (J : Array Bool → Act → World → Prop) (hB : earlierB ops = true)
    (hstep : ∀ ℓ a w i, J ℓ a w → ℓ.size = ops.size → Shut ops ℓ → i ∈ Region.ready .any ops ℓ → wpOpIn F n P ops Q i (J (ℓ.setIfInBounds i true)) a w)
    (hend : ∀ ℓ a w, J ℓ a w → (∀ i, i < ops.size → ℓ.getD i false = true) → Q .normal a w) :
    ∀ (fuel : Nat) (ℓ : Array Bool) (a : Act) (w : World), ℓ.size = ops.size → Shut ops ℓ → ℓ.toList.count false ≤ fuel → J ℓ a w → wpAnyIn F n P .any ops Q fuel ℓ a w
  | 0, ℓ, a, w, hs, _, hc, hJ => by
    have hall : ∀ i, i < ops.size → ℓ.getD i false = true := by
      intro i hi
      cases hl : ℓ.getD i false with
      | true => rfl
      | false =>
        exfalso
        have hlt : i < ℓ.size := by omega
        have : ℓ.toList[i]? = some false := by
          rw [Array.getElem?_toList, Array.getElem?_eq_getElem hlt]
          simpa [hlt] using hl
        have := List.count_pos_iff.2 (List.mem_of_getElem? this)
        omega
    refine ⟨?_, hend _ _ _ hJ hall⟩
    cases hr : Region.ready .any ops ℓ with
    | nil => rfl
    | cons j l =>
      exfalso
      have hj : j ∈ Region.ready .any ops ℓ := by rw [hr]; exact List.mem_cons_self
      obtain ⟨hun, o, ho, _⟩ := mem_ready.1 hj
      have := hall j (Array.getElem?_eq_some_iff.1 ho).1
      rw [getD_both hun] at this
      cases this
  | fuel + 1, ℓ, a, w, hs, hsh, hc, hJ => by
    refine ⟨fun hr => hend _ _ _ hJ (all_done hB hs hr), fun i hi => ?_⟩
    obtain ⟨hun, o, ho, _⟩ := mem_ready.1 hi
    have hilt : i < ℓ.size := by rw [hs]; exact (Array.getElem?_eq_some_iff.1 ho).1
    have h1 := falses_set (l := ℓ.toList) (i := i) (by
      rw [Array.getElem?_toList, Array.getElem?_eq_getElem hilt]
      simpa [hilt] using getD_both hun)
    refine wpOpIn_mono (fun a' w' hJ' => any_inv_in J hB hstep hend fuel _ a' w' (by simpa using hs) (hsh.set hi) ?_ hJ') (hstep ℓ a w i hJ hs hsh hi)
    rw [Array.toList_setIfInBounds]
    omega
theorem wpOpIn_append {i : Nat} {o : Oper} {K : Act → World → Prop} {a : Act} {w w' : World} {v u r : Value} (ho : ops[i]? = some o) (hg : o.guard = none) (s x : Operand) (t : TypeId)
    (hop : o.op = .call { callee := .builtin .append, args := #[s, x], argTypes := #[t, t] }) (hs : a.eval s = v) (hx : a.eval x = u) (hap : (Builtin.append_ #[t, t] o.type #[v, u]).run P w = .ok r w') (h : K (a.put o.dst r) w') : wpOpIn F n P ops Q i K a w := by
  refine wpOpIn_step ho fun K' hK' => ?_
  rw [if_pos (by simp [Region.wanted, hg])]
  unfold Oper.wpIn
  refine ⟨?_, ?_⟩
  · simp [Oper.about, hop, resolve, Target.leads, Sem.run_pure]
  · rw [Oper.semAt_plain F _ _ (by rw [hop]; intro c hc'; cases hc')]
    simp [execOp, hop, resolve, invoke, builtin, hs, hx, hap, Result.andThen]
    exact hK' _ _ h
theorem wpIn_region_inv (J : Array Bool → Act → World → Prop) {id : Nat} {a : Act} {w : World} (hm : P.follows .mixedOrders = true) (hB : earlierB ops = true) (h0 : J (Array.replicate ops.size false) a w.drew)
    (hstep : ∀ ℓ a w i, J ℓ a w → ℓ.size = ops.size → Shut ops ℓ → i ∈ Region.ready .any ops ℓ → wpOpIn F n P ops Q i (J (ℓ.setIfInBounds i true)) a w)
    (hend : ∀ ℓ a w, J ℓ a w → (∀ i, i < ops.size → ℓ.getD i false = true) → Q .normal a w) : (Code.region id ops true).wpIn F n P Q a w :=
  wpIn_region_any hm (any_inv_in J hB hstep hend _ _ _ _ (by simp) Shut.start (by simp) h0)
end

/-- A box's row, and one element more behind it. -/
theorem box_pushed {w wr w9 w11 : World} {n0 m0 B sz m : Nat} {st e : TypeId} {v v' : Value} {vs us : List Value} (p : Nat → TypeId → Prop) (hne : st ≠ e) (hn0 : w.heap.size = n0) (hnm : n0 ≤ m0) (hbox : Boxed wr B st v) (hown : wr.ownsRow m0 e sz v m vs) (hB : n0 ≤ B) (hw : Below n0 w wr) (h9 : Below wr.heap.size wr w9)
    (hown' : w11.ownsRow m0 e sz v' (m + 1) (vs ++ us)) (hgrow : (w9.alloc (.cells us.toArray e)).grownBy w11 v.ownBlock) (hp : ∀ k t, p k t → k ≠ B ∧ (k < m0 ∨ t ≠ e)) :
    Boxed w11 B st v ∧ KeepsOthers wr (w11.setCell ⟨B, 0, none⟩ v') ∧ Kp n0 p wr (w11.setCell ⟨B, 0, none⟩ v') ∧ Boxed (w11.setCell ⟨B, 0, none⟩ v') B st v' ∧ (w11.setCell ⟨B, 0, none⟩ v').ownsRow m0 e sz v' (m + 1) (vs ++ us) ∧ Below n0 w (w11.setCell ⟨B, 0, none⟩ v') := by
  have hbl := hbox.lt
  have hb9 : Boxed w9 B st v := (h9.block B hbl).trans hbox
  have hown9 : w9.ownsRow m0 e sz v m vs := ownsRow_turned hown (Turned.of_below (S := fun _ => False) h9) (fun _ _ h => h)
  have hs : n0 ≤ wr.heap.size := by rw [← hn0]; exact hn0 ▸ hw.size
  have hs9 : n0 ≤ w9.heap.size := Nat.le_trans hs h9.size
  obtain ⟨a1, a2, a3, a4, a5⟩ := Boxed.appended hb9 hne (own_base hown9 hnm) hs9 hB (own_base hown' hnm) hgrow
  have ko9 : KeepsOthers wr w9 := ⟨h9.size, fun k o hk _ => (h9.block k (Array.getElem?_eq_some_iff.1 hk).1).trans hk⟩
  have hb5 : Below n0 wr (w11.setCell ⟨B, 0, none⟩ v') := (h9.mono hs).trans a5
  refine ⟨a1, ko9.trans a4, ⟨hb5, fun k cs t fr hk hpk => ?_⟩, a2, hown'.kept (grownBy_setCell' w11 B v') (.inr (a1.not_row hne hown').symm), hw.trans hb5⟩
  obtain ⟨q1, q2⟩ := hp k t hpk
  have hk9 : w9.heap[k]? = some (.cells cs t fr) := (h9.block k (Array.getElem?_eq_some_iff.1 hk).1).trans hk
  have hk10 : (w9.alloc (.cells us.toArray e)).heap[k]? = some (.cells cs t fr) := (heap_alloc_old _ _ _ (Array.getElem?_eq_some_iff.1 hk9).1).trans hk9
  have hno : some k ≠ v.ownBlock := fun e' => by
    rcases hown9.2 with ⟨rfl, _⟩ | ⟨g, cap, cur, rfl, hg, hgb, _⟩
    · cases e'
    · have : k = g := by simpa [Value.ownBlock] using e'
      subst this
      rw [hgb] at hk9
      rcases q2 with q2 | q2
      · omega
      · cases hk9
        exact q2 rfl
  have hk11 := (hgrow.block k (Array.getElem?_eq_some_iff.1 hk10).1 hno).trans hk10
  exact (Below.heap_setCell _ _ _ k (fun e => q1 e)).trans hk11
end Go.Proofs.Ytcjbhjbjkfgphaa

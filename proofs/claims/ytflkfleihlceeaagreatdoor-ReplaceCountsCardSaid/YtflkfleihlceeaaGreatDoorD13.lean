import Derived.Test.YtflkfleihlceeaaGreatDoorProg
import Derived.Test.YtflkfleihlceeaaGreatDoorD16
import Derived.OrdersHeld
import Derived.Deep.RegionHeld
import Derived.RegionTactic
import Derived.StillTail
import Derived.KernelRfl
/-
 A region that draws its order, whose loads read what its calls leave: the loads first, then the calls and the stores, one behind the other. Condition: what the loads read stays until all have read.
-/
namespace Go.Proofs.YtflkfleihlceeaaGreatDoor
section
variable {P : Program} {ops : Array Oper} {Q : Exit -> Act -> World -> Prop} {S : World -> Prop} {late : Nat -> Bool}
def Closed (ops : Array Oper) (listed : Array Bool) : Prop := ∀ j oj, ops[j]? = some oj -> listed.getD j false = true -> ∀ e ∈ oj.after, Region.binds .any e = true -> listed.getD e.on false = true
def needs (ops : Array Oper) : Nat -> Nat -> Nat -> Bool
 | 0, _, _ => false
 | n + 1, j, i => match ops[j]? with
  | some oj => oj.after.toList.any fun e => Region.binds .any e && (e.on == i || needs ops n e.on i)
  | none => false
theorem needs_listed {listed : Array Bool} (hc : Closed ops listed) {i : Nat} : ∀ (n j : Nat), needs ops n j i = true -> (∃ oj, ops[j]? = some oj /\ ∀ e ∈ oj.after, Region.binds .any e = true -> listed.getD e.on false = true) -> listed.getD i false = true
 | 0, j, h, _ => by cases h
 | n + 1, j, h, ⟨oj, hoj, hall⟩ => by
  unfold needs at h;rw [hoj] at h;obtain ⟨e, he, h2⟩ := List.any_eq_true.1 h;simp only [Bool.and_eq_true, Bool.or_eq_true, beq_iff_eq] at h2;have h3 := hall e (Array.mem_toList_iff.1 he) h2.1;rcases h2.2 with h4 | h4
  ·rw [<- h4]; exact h3
  ·cases hoe : ops[e.on]? with
   | none =>
    cases n with
    | zero => cases h4
    | succ n => unfold needs at h4; rw [hoe] at h4; cases h4
   | some oe => exact needs_listed hc n e.on h4 ⟨oe, hoe, hc e.on oe hoe h3⟩
theorem Closed.set {i : Nat} {listed : Array Bool} (hc : Closed ops listed) (hi : i ∈ Region.ready .any ops listed) : Closed ops (listed.setIfInBounds i true) := by
 obtain ⟨_, oi, hoi, hall⟩ := mem_ready.1 hi;intro j oj hj hl e he hb;by_cases hij : i = j
 ·subst hij;have : oj = oi := Option.some.inj (hj.symm.trans hoi);subst this;exact getD_set_true (hall e he hb)
 ·rw [getD_set_ne false hij] at hl;exact getD_set_true (hc j oj hj hl e he hb)
def wpAnyG (P : Program) (ops : Array Oper) (Q : Exit -> Act -> World -> Prop) (S : World -> Prop) (late : Nat -> Bool) : Nat -> Array Bool -> Act -> World -> Prop
 | 0, listed, a, w => Region.ready .any ops listed = [] /\ Q .normal a w
 | fuel + 1, listed, a, w =>
  (Region.ready .any ops listed = [] -> Q .normal a w) ∧
  ∀ i ∈ Region.ready .any ops listed, wpOp P ops Q i (fun a' w' => (late i = false -> S w') /\ wpAnyG P ops Q S late fuel (listed.setIfInBounds i true) a' w') a w
theorem wpAny_of_G : ∀ (fuel : Nat) (listed : Array Bool) (a : Act) (w : World), wpAnyG P ops Q S late fuel listed a w -> wpAny P .any ops Q fuel listed a w
 | 0, _, _, _, h => h
 | fuel + 1, _, _, _, h => ⟨h.1, fun i hi => wpOp_mono (fun a' w' h' => wpAny_of_G fuel _ a' w' h'.2) (h.2 i hi)⟩
theorem wpAnyG_first {i : Nat} {oi : Oper} {v : Value} (hi : ops[i]? = some oi) (hsel : ∀ (j : Nat) (o : Oper) cs b, ops[j]? = some o -> o.op ≠ .select cs b)
  (hlate : ∀ j, late j = true -> needs ops ops.size j i = true) (hQ : ∀ c a w, Q (.panic c) (a.put oi.dst v) w -> Q (.panic c) a w) :
  ∀ (fuel : Nat) (listed : Array Bool) (a : Act) (w : World), Closed ops listed ->
   (∀ j oj, ops[j]? = some oj -> j ≠ i -> listed.getD j true = false -> (∀ e ∈ oj.after, Region.binds .any e = true -> e.on ≠ i) -> oi.apart ops oj = true) ->
   i ∈ Region.ready .any ops listed -> YieldsIf P ops S oi v a -> S w ->
   wpAnyG P ops Q S late fuel (listed.setIfInBounds i true) (a.put oi.dst v) w -> wpAnyG P ops Q S late (fuel + 1) listed a w := by
 intro fuel
 induction fuel with
 | zero =>
  intro listed a w _ _ hr hy hS H;refine ⟨fun h => (by rw [h] at hr; cases hr), fun j hj => ?_⟩;by_cases hji : j = i
  ·subst hji; exact hy.wpOp hi hS ⟨fun _ => hS, H⟩
  ·have := ready_mono hj hji;rw [H.1] at this;cases this
 | succ fuel ih =>
  intro listed a w hcl hfree hr hy hS H;refine ⟨fun h => (by rw [h] at hr; cases hr), fun j hj => ?_⟩;by_cases hji : j = i
  ·subst hji; exact hy.wpOp hi hS ⟨fun _ => hS, H⟩
  ·have h1 := H.2 j (ready_mono hj hji);obtain ⟨hjun, oj, hoj, hall⟩ := mem_ready.1 hj;have hiun := (mem_ready.1 hr).1
   have hlj : late j = false := by
    cases hl : late j with
    | false => rfl
    | true =>
     have := needs_listed hcl _ j (hlate j hl) ⟨oj, hoj, hall⟩;rw [getD_both hiun] at this;cases this
   have hnot : ∀ e ∈ oj.after, Region.binds .any e = true -> e.on ≠ i := fun e he hb heq => by
    have h1 := hall e he hb;rw [heq, getD_both hiun] at h1;cases h1
   have h2 := wpOp_putIf hoj (hfree j oj hoj hji hjun hnot) (fun cs b => hsel i oi cs b hi) (fun cs b => hsel j oj cs b hoj) hQ hy h1
   have hfree' : ∀ k ok, ops[k]? = some ok -> k ≠ i -> (listed.setIfInBounds j true).getD k true = false ->
     (∀ e ∈ ok.after, Region.binds .any e = true -> e.on ≠ i) -> oi.apart ops ok = true := fun k ok hk hki hun hno => by
    refine hfree k ok hk hki ?_ hno;by_cases hjk : j = k
    ·subst hjk; exact hjun
    ·rw [getD_set_ne true hjk] at hun; exact hun
   refine wpOp_mono (fun a' w' h3 => ⟨h3.2.1, ih (listed.setIfInBounds j true) a' w' (hcl.set hj) hfree' (ready_mono hr (Ne.symm hji)) h3.1 (h3.2.1 hlj) ?_⟩) h2;rw [Array.setIfInBounds_comm _ _ hji];exact h3.2.2
def seqL (ops : Array Oper) : List Nat -> Array Bool -> Bool
 | [], listed => (Region.ready .any ops listed).isEmpty
 | k :: ks, listed => decide (Region.ready .any ops listed = [k]) && seqL ops ks (listed.setIfInBounds k true)
def wpTail (P : Program) (ops : Array Oper) (Q : Exit -> Act -> World -> Prop) (S : World -> Prop) (late : Nat -> Bool) : List Nat -> Act -> World -> Prop
 | [], a, w => Q .normal a w
 | k :: ks, a, w => wpOp P ops Q k (fun a' w' => (late k = false -> S w') /\ wpTail P ops Q S late ks a' w') a w
theorem wpAnyG_of_tail : ∀ (ks : List Nat) (listed : Array Bool) (a : Act) (w : World), seqL ops ks listed = true -> wpTail P ops Q S late ks a w -> wpAnyG P ops Q S late ks.length listed a w
 | [], listed, a, w, hB, h => ⟨by simpa [seqL] using hB, h⟩
 | k :: ks, listed, a, w, hB, h => by
  simp only [seqL, Bool.and_eq_true, decide_eq_true_eq] at hB;refine ⟨fun h1 => (by rw [hB.1] at h1; cases h1), fun i hi => ?_⟩;rw [hB.1] at hi;have hik : i = k := (by simpa using hi);subst hik;exact wpOp_mono (fun a' w' h' => ⟨h'.1, wpAnyG_of_tail ks _ a' w' hB.2 h'.2⟩) h
def wpHeads (P : Program) (ops : Array Oper) (S : World -> Prop) (R : Act -> Prop) : List Nat -> Act -> Prop
 | [], a => R a
 | i :: is, a => ∃ o v, ops[i]? = some o /\ YieldsIf P ops S o v a /\ wpHeads P ops S R is (a.put o.dst v)
theorem heads_step {R : Act -> Prop} {i : Nat} {is : List Nat} {a : Act} {o : Oper} {v : Value} (ho : ops[i]? = some o) (hw : Region.wanted o (yielded ops a.tmps) = true) (hy : ∀ w, S w -> (execOp a.eval o).run P w = .ok (.value v) w) (h : wpHeads P ops S R is (a.put o.dst v)) : wpHeads P ops S R (i :: is) a := ⟨o, v, ho, .inl ⟨hw, hy⟩, h⟩
theorem heads_end {R : Act -> Prop} {a : Act} (h : R a) : wpHeads P ops S R [] a := h
theorem tail_step {k : Nat} {ks : List Nat} {a : Act} {w : World} {o : Oper} (ho : ops[k]? = some o) (h : ∀ K : Act -> World -> Prop, (∀ a' w', (late k = false -> S w') /\ wpTail P ops Q S late ks a' w' -> K a' w') -> if Region.wanted o (yielded ops a.tmps) = true then Oper.wp P o a w K Q else K (a.put o.dst undef) w) : wpTail P ops Q S late (k :: ks) a w := wpOp_step ho h
theorem tail_end {a : Act} {w : World} (h : Q .normal a w) : wpTail P ops Q S late [] a w := h
def headsL (ops : Array Oper) (lates : List Nat) (ks : List Nat) : List Nat -> Array Bool -> Bool
 | [], listed => seqL ops ks listed
 | i :: is, listed => (Region.ready .any ops listed).contains i && Region.free .any ops listed i && lates.all (fun j => needs ops ops.size j i) && headsL ops lates ks is (listed.setIfInBounds i true)
theorem wpAnyG_of_heads {lates : List Nat} (hsel : Region.noSelect ops = true) (hQ : ∀ c a d v w, Q (.panic c) (a.put d v) w -> Q (.panic c) a w) {ks : List Nat} {w : World} (hS : S w) : ∀ (is : List Nat) (listed : Array Bool) (a : Act), Closed ops listed -> headsL ops lates ks is listed = true ->
  wpHeads P ops S (fun a' => wpTail P ops Q S (fun j => lates.contains j) ks a' w) is a -> wpAnyG P ops Q S (fun j => lates.contains j) (is.length + ks.length) listed a w
 | [], listed, a, _, hB, h => by
  rw [List.length_nil, Nat.zero_add];exact wpAnyG_of_tail ks listed a w hB h
 | i :: is, listed, a, hc, hB, ⟨o, v, ho, hy, h⟩ => by
  simp only [headsL, Bool.and_eq_true] at hB;obtain ⟨⟨⟨hr, hf⟩, hl⟩, hB'⟩ := hB;have hr' : i ∈ Region.ready .any ops listed := (by simpa using hr);rw [show (i :: is).length + ks.length = (is.length + ks.length) + 1 by rw [List.length_cons]; omega]
  exact wpAnyG_first ho (Region.noSelect_spec hsel) (fun j hj => List.all_eq_true.1 hl j (by simpa using hj)) (fun c a' w' h => hQ c _ _ _ w' h) _ listed a w hc (Region.free_spec ho hf) hr' hy hS
   (wpAnyG_of_heads hsel hQ hS is _ _ (hc.set hr') hB' h)
theorem hq_body {fn : Func} {R : Ending -> World -> Prop} (c : List PanicEntry) (a : Act) (d : Option Tmp) (v : Value) (w : World) (h : bodyPost P fn R (.panic c) (a.put d v) w) : bodyPost P fn R (.panic c) a w := by
 have e : (a.put d v).defers = a.defers := (by cases d <;> rfl);obtain ⟨h1, h2⟩ := h;exact ⟨e ▸ h1, h2⟩
theorem wp_region_heads (S : World -> Prop) (is ks lates : List Nat) {id : Nat} {a : Act} {w : World} (hm : P.follows .mixedOrders = true) (hn : is.length + ks.length = ops.size) (hsel : Region.noSelect ops = true) (hQ : ∀ c a d v w, Q (.panic c) (a.put d v) w -> Q (.panic c) a w) (hB : headsL ops lates ks is (Array.replicate ops.size false) = true) (hS : S w.drew)
  (h : wpHeads P ops S (fun a' => wpTail P ops Q S (fun j => lates.contains j) ks a' w.drew) is a) : (Code.region id ops true).wp P Q a w := by
 refine wp_region_any hm (wpAny_of_G (S := S) (late := fun j => lates.contains j) _ _ _ _ ?_);have := wpAnyG_of_heads (Q := Q) hsel hQ hS is (Array.replicate ops.size false) a (fun j oj _ hl => by rw [getD_replicate_false] at hl; cases hl) hB h;rw [hn] at this;exact this
end
section
variable {P : Program} {ops : Array Oper} {Q : Exit -> Act -> World -> Prop} {S : World -> Prop} {late : Nat -> Bool}
theorem anyG_inv (J : Array Bool -> Act -> World -> Prop) (hB : earlierB ops = true) (hJS : ∀ listed a w, J listed a w -> S w)
  (hstep : ∀ listed a w i, J listed a w -> listed.size = ops.size -> i ∈ Region.ready .any ops listed -> wpOp P ops Q i (J (listed.setIfInBounds i true)) a w)
  (hend : ∀ listed a w, J listed a w -> (∀ i, i < ops.size -> listed.getD i false = true) -> Q .normal a w) :
  ∀ (fuel : Nat) (listed : Array Bool) (a : Act) (w : World), listed.size = ops.size -> listed.toList.count false <= fuel -> J listed a w -> wpAnyG P ops Q S late fuel listed a w
 | 0, listed, a, w, hs, hc, hJ => by
  have hall : ∀ i, i < ops.size -> listed.getD i false = true := by
   intro i hi;cases hl : listed.getD i false with
   | true => rfl
   | false =>
    exfalso;have hlt : i < listed.size := (by omega)
    have : listed.toList[i]? = some false := by
     rw [Array.getElem?_toList, Array.getElem?_eq_getElem hlt];simpa [hlt] using hl
    have hm := List.mem_of_getElem? this;have := List.count_pos_iff.2 hm;omega
  refine ⟨?_, hend _ _ _ hJ hall⟩;cases hr : Region.ready .any ops listed with
  | nil => rfl
  | cons j l =>
   exfalso;have hj : j ∈ Region.ready .any ops listed := (by rw [hr]; exact List.mem_cons_self);obtain ⟨hun, o, ho, _⟩ := mem_ready.1 hj;have := hall j (Array.getElem?_eq_some_iff.1 ho).1;rw [getD_both hun] at this;cases this
 | fuel + 1, listed, a, w, hs, hc, hJ => by
  refine ⟨fun hr => hend _ _ _ hJ (all_listed hB hs hr), fun i hi => ?_⟩;obtain ⟨hun, o, ho, _⟩ := mem_ready.1 hi;have hilt : i < listed.size := (by rw [hs]; exact (Array.getElem?_eq_some_iff.1 ho).1)
  have h1 := count_set (l := listed.toList) (i := i) (by
   rw [Array.getElem?_toList, Array.getElem?_eq_getElem hilt]
   simpa [hilt] using getD_both hun)
  refine wpOp_mono (fun a' w' hJ' => ⟨fun _ => hJS _ _ _ hJ', anyG_inv J hB hJS hstep hend fuel _ a' w' (by simpa using hs) ?_ hJ'⟩) (hstep listed a w i hJ hs hi);rw [Array.toList_setIfInBounds];omega
theorem dep_of' {md : Region.Mode} {ops : Array Oper} {listed : Array Bool} {i k : Nat} (hi : i ∈ Region.ready md ops listed) (h : Region.waitsFor md ops i k = true) : listed.getD k false = true := by
 obtain ⟨_, o, ho, hall⟩ := mem_ready.1 hi;obtain ⟨oj, hoj, e, he, hb, hon⟩ := Region.waitsFor_spec h;have : oj = o := Option.some.inj (hoj.symm.trans ho);subst this;rw [<- hon];exact hall e he hb
def setAll (l : Array Bool) : List Nat -> Array Bool
 | [] => l
 | i :: is => setAll (l.setIfInBounds i true) is
def headsB (ops : Array Oper) (lates : List Nat) : List Nat -> Array Bool -> Bool
 | [], _ => true
 | i :: is, listed => (Region.ready .any ops listed).contains i && Region.free .any ops listed i && lates.all (fun j => needs ops ops.size j i) && headsB ops lates is (listed.setIfInBounds i true)
theorem wpAnyG_of_headsB {lates : List Nat} {n : Nat} (hsel : Region.noSelect ops = true) (hQ : ∀ c a d v w, Q (.panic c) (a.put d v) w -> Q (.panic c) a w) {w : World} (hS : S w) : ∀ (is : List Nat) (listed : Array Bool) (a : Act), Closed ops listed -> headsB ops lates is listed = true ->
  wpHeads P ops S (fun a' => wpAnyG P ops Q S (fun j => lates.contains j) n (setAll listed is) a' w) is a -> wpAnyG P ops Q S (fun j => lates.contains j) (is.length + n) listed a w
 | [], listed, a, _, _, h => by
  rw [List.length_nil, Nat.zero_add];exact h
 | i :: is, listed, a, hc, hB, ⟨o, v, ho, hy, h⟩ => by
  simp only [headsB, Bool.and_eq_true] at hB;obtain ⟨⟨⟨hr, hf⟩, hl⟩, hB'⟩ := hB;have hr' : i ∈ Region.ready .any ops listed := (by simpa using hr);rw [show (i :: is).length + n = (is.length + n) + 1 by rw [List.length_cons]; omega]
  exact wpAnyG_first ho (Region.noSelect_spec hsel) (fun j hj => List.all_eq_true.1 hl j (by simpa using hj)) (fun c a' w' h => hQ c _ _ _ w' h) _ listed a w hc (Region.free_spec ho hf) hr' hy hS
   (wpAnyG_of_headsB hsel hQ hS is _ _ (hc.set hr') hB' h)
theorem wp_region_hinv (S : World -> Prop) (is lates : List Nat) (J : Array Bool -> Act -> World -> Prop) {id n : Nat} {a : Act} {w : World} (hm : P.follows .mixedOrders = true) (hn : is.length + n = ops.size) (hsel : Region.noSelect ops = true) (hE : earlierB ops = true) (hQ : ∀ c a d v w, Q (.panic c) (a.put d v) w -> Q (.panic c) a w) (hB : headsB ops lates is (Array.replicate ops.size false) = true) (hS : S w.drew)
  (hsz : (setAll (Array.replicate ops.size false) is).size = ops.size) (hcnt : (setAll (Array.replicate ops.size false) is).toList.count false <= n) (hJS : ∀ listed a w, J listed a w -> S w)
  (h : wpHeads P ops S (fun a' => J (setAll (Array.replicate ops.size false) is) a' w.drew) is a)
  (hstep : ∀ listed a w i, J listed a w -> listed.size = ops.size -> i ∈ Region.ready .any ops listed -> wpOp P ops Q i (J (listed.setIfInBounds i true)) a w)
  (hend : ∀ listed a w, J listed a w -> (∀ i, i < ops.size -> listed.getD i false = true) -> Q .normal a w) : (Code.region id ops true).wp P Q a w := by
 refine wp_region_any hm (wpAny_of_G (S := S) (late := fun j => lates.contains j) _ _ _ _ ?_)
 have hmono : ∀ (R R' : Act -> Prop), (∀ a, R a -> R' a) -> ∀ (is : List Nat) (a : Act), wpHeads P ops S R is a -> wpHeads P ops S R' is a := by
  intro R R' hR is
  induction is with
  | nil => exact fun a h => hR a h
  | cons i is ih =>
   rintro a ⟨o, v, h1, h2, h3⟩;exact ⟨o, v, h1, h2, ih _ h3⟩
 have := wpAnyG_of_headsB (Q := Q) (lates := lates) (n := n) hsel hQ hS is (Array.replicate ops.size false) a (fun j oj _ hl => by rw [getD_replicate_false] at hl; cases hl) hB
  (hmono _ _ (fun a' hJ => anyG_inv J hE hJS hstep hend n _ a' _ hsz hcnt hJ) is a h)
 rw [hn] at this;exact this
end
section
variable {P : Program} {ops : Array Oper} {Q : Exit -> Act -> World -> Prop} {S : World -> Prop} {late : Nat -> Bool}
theorem anyG_tail1 {k n : Nat} {listed : Array Bool} {a : Act} {w : World} (hr : Region.ready .any ops listed = [k]) (h : wpOp P ops Q k (fun a' w' => (late k = false -> S w') /\ wpAnyG P ops Q S late n (listed.setIfInBounds k true) a' w') a w) : wpAnyG P ops Q S late (n + 1) listed a w := by
 refine ⟨fun h1 => (by rw [hr] at h1; cases h1), fun i hi => ?_⟩;rw [hr] at hi;have hik : i = k := (by simpa using hi);subst hik;exact h
theorem anyG_end {listed : Array Bool} {a : Act} {w : World} (hr : Region.ready .any ops listed = []) (h : Q .normal a w) : wpAnyG P ops Q S late 0 listed a w := ⟨hr, h⟩
theorem wp_region_G (S : World -> Prop) (lates : List Nat) {id : Nat} {a : Act} {w : World} (hm : P.follows .mixedOrders = true) (h : wpAnyG P ops Q S (fun j => lates.contains j) ops.size (Array.replicate ops.size false) a w.drew) : (Code.region id ops true).wp P Q a w :=
 wp_region_any hm (wpAny_of_G (S := S) (late := fun j => lates.contains j) _ _ _ _ h)
def closedB (ops : Array Oper) (listed : Array Bool) : Bool := (List.range ops.size).all fun j => !(listed.getD j false) || ((ops[j]?).map fun o => o.after.toList.all fun e => !Region.binds .any e || listed.getD e.on false).getD true
theorem closed_of {listed : Array Bool} (h : closedB ops listed = true) : Closed ops listed := by
 intro j oj hj hl e he hb;have hjl : j < ops.size := (Array.getElem?_eq_some_iff.1 hj).1;have h1 := List.all_eq_true.1 h j (List.mem_range.2 hjl);rw [hl, hj] at h1;simp only [Bool.not_true, Bool.false_or, Option.map_some, Option.getD_some] at h1;have h2 := List.all_eq_true.1 h1 e (Array.mem_toList_iff.2 he);rw [hb] at h2;simpa using h2
theorem anyG_heads {lates : List Nat} (is : List Nat) {n : Nat} {listed : Array Bool} {a : Act} {w : World} (hsel : Region.noSelect ops = true) (hQ : ∀ c a d v w, Q (.panic c) (a.put d v) w -> Q (.panic c) a w) (hS : S w) (hc : closedB ops listed = true) (hB : headsB ops lates is listed = true)
  (h : wpHeads P ops S (fun a' => wpAnyG P ops Q S (fun j => lates.contains j) n (setAll listed is) a' w) is a) : wpAnyG P ops Q S (fun j => lates.contains j) (is.length + n) listed a w :=
 wpAnyG_of_headsB hsel hQ hS is listed a (closed_of hc) hB h
theorem heads_skip {R : Act -> Prop} {i : Nat} {is : List Nat} {a : Act} {o : Oper} (ho : ops[i]? = some o) (hw : Region.wanted o (yielded ops a.tmps) = false) (h : wpHeads P ops S R is (a.put o.dst undef)) : wpHeads P ops S R (i :: is) a := ⟨o, undef, ho, .inr ⟨hw, rfl⟩, h⟩
theorem heads_step' {R : Act -> Prop} {i : Nat} {is : List Nat} {a : Act} {o : Oper} {v : Value} {d : Tmp} (ho : ops[i]? = some o) (hd : o.dst = some d) (hw : Region.wanted o (yielded ops a.tmps) = true) (hy : ∀ w, S w -> (execOp a.eval o).run P w = .ok (.value v) w) (h : wpHeads P ops S R is (a.put (some d) v)) : wpHeads P ops S R (i :: is) a :=
 heads_step ho hw hy (by rw [hd]; exact h)
theorem heads_skip' {R : Act -> Prop} {i : Nat} {is : List Nat} {a : Act} {o : Oper} {d : Tmp} (ho : ops[i]? = some o) (hd : o.dst = some d) (hw : Region.wanted o (yielded ops a.tmps) = false) (h : wpHeads P ops S R is (a.put (some d) undef)) : wpHeads P ops S R (i :: is) a := heads_skip ho hw (by rw [hd]; exact h)
end
end Go.Proofs.YtflkfleihlceeaaGreatDoor

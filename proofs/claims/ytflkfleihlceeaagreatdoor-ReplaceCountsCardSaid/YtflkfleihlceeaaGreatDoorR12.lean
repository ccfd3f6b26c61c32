/-
 A range over a function whose loop variable lies in a box of its own, one for each round, and whose body may end by a return. Conditions: the iterator keeps its contract; what a round keeps is the iterator's choice; the caller's facts speak of cells, and of what lay ahead of the loop.
-/
import Derived.RangeFuncBox
import Derived.KernelRfl
import Derived.Test.YtflkfleihlceeaaGreatDoorR11
namespace Go.Proofs.YtflkfleihlceeaaGreatDoor
open Go.RowKit Go.Deep Go.Shelf
def Two (B : Nat) (r : Loop) (W : World) : Prop := W.heap[B]? = some (.deferred (some [])) /\ W.heap[B + 1]? = some (.loop r)
theorem Two.grown {B : Nat} {r : Loop} {W W' : World} {row : Option Nat} (h : Two B r W) (hg : W.grownBy W' row) (hr : ∀ k, row = some k -> ∃ o : Obj, W.heap[k]? = some o /\ o.isWalk = true) : Two B r W' := by
 have key : ∀ (k : Nat) (o : Obj), W.heap[k]? = some o -> o.isWalk = false -> W'.heap[k]? = some o := fun k o hk ho => by
  refine (hg.block k (Array.getElem?_eq_some_iff.1 hk).1 fun e => ?_).trans hk;obtain ⟨o', h1, h2⟩ := hr k e.symm;rw [hk] at h1;cases h1
  rw [ho] at h2;cases h2
 exact ⟨key _ _ h.1 rfl, key _ _ h.2 rfl⟩
theorem Two.alloc {B : Nat} {r : Loop} {W : World} (h : Two B r W) (o : Obj) : Two B r (W.alloc o) := h.grown (World.grownBy_alloc W o none) (fun k e => by cases e)
theorem Two.others {B : Nat} {r : Loop} {W W' : World} (h : Two B r W) (hk : KeepsOthers W W') : Two B r W' := ⟨hk.same _ _ h.1 rfl, hk.same _ _ h.2 rfl⟩
theorem Two.put {B : Nat} {r : Loop} {W : World} (h : Two B r W) (r' : Loop) : Two B r' (W.putObj (B + 1) (.loop r')) :=
 ⟨(World.putObj_heap_other (by omega)).trans h.1, World.putObj_heap_same (Array.getElem?_eq_some_iff.1 h.2).1⟩

section
variable {α : Type} {P : Program} {n : Nat}
def recOf (f : FuncId) (a : Act) (ps : Array Tmp) (assign body : Code) (B : Nat) (st : LoopState) (pe : Option Code) : Loop := { state := st, pending := pe, fn := f, tmps := a.tmps, params := ps, assign := assign, body := body, defers := B }
theorem round_ends {B : Nat} {f : FuncId} {a : Act} {ps : Array Tmp} {assign body : Code} {W : World} (j : Option Code) (h : Two B (recOf f a ps assign body B .busy none) W) :
  (Instr.endRound (B + 1) j).run P W = .ok (.bool j.isNone) (W.putObj (B + 1) (.loop (recOf f a ps assign body B (if j.isNone then .ready else .done) j))) ∧
  Two B (recOf f a ps assign body B (if j.isNone then .ready else .done) j) (W.putObj (B + 1) (.loop (recOf f a ps assign body B (if j.isNone then .ready else .done) j))) :=
 ⟨run_endRound (P := P) j h.2, h.put _⟩
def Stay (m : Nat) (W W' : World) : Prop := ∀ (k : Nat) (o : Obj), m <= k -> W.heap[k]? = some o -> o.isCells = false -> W'.heap[k]? = some o
theorem Stay.trans {m : Nat} {A B C : World} (h : Stay m A B) (k : Stay m B C) : Stay m A C := fun i o hi ho hc => k i o hi (h i o hi ho hc) hc
theorem Stay.of_others {m : Nat} {A B : World} (h : KeepsOthers A B) : Stay m A B := fun i o _ ho hc => h.2 i o ho hc
theorem Two.stay {B : Nat} {r : Loop} {W W' : World} (h : Two B r W) (hk : Stay B W W') : Two B r W' := ⟨hk _ _ (nlr _) h.1 rfl, hk _ _ (Nat.le_succ _) h.2 rfl⟩
def boxPostF {α : Type} (Kp : World -> World -> Prop) (m : Nat) (I : List α -> World -> Prop) (Ix : Code -> List α -> World -> Prop) (xs : List α) (W : World) : Exit -> Act -> World -> Prop
 | .normal, _, W' => Stay m W W' /\ Kp W W' /\ I xs W'
 | .exit id, _, W' => Stay m W W' /\ Ix (.exit id) xs W'
 | .ret, _, W' => Stay m W W' /\ Ix .ret xs W'
 | _, _, _ => False
set_option maxHeartbeats 400000 in
theorem range_boxed_far {g : Operand} {ps : Array Tmp} {assign body : Code} {Q : Exit -> Act -> World -> Prop} {a : Act} {w : World} (h1 : 1 <= n) {gf : Nat} {lb : Array Value} (hg : a.eval g = .func (.func gf) #[] lb) (eg : ∀ args w, (callFunc gf args).run P w = .ok (.enter gf args) w)
  {encs : α -> Array Value} {Kp : World -> World -> Prop} {S Sp : List α -> Prop} {G : List α -> α -> Prop} {w0 : World} (hseq : SeqStopsG Fence.wide (n - 1) P gf lb encs Kp S Sp G w0) (hb0 : Below w0.heap.size w0 w) (hps : ∀ x, (encs x).size = ps.size)
  (hKt : ∀ {A B C : World}, Kp A B -> Kp B C -> Kp A C) (hKb : ∀ (W : World) (l : Nat) (o o' : Obj), w.heap.size <= l -> W.heap[l]? = some o -> o.isCells = false -> o.isWalk = false -> Kp W (W.putObj l o')) (hKa : ∀ (W : World) (o : Obj), w.heap.size <= W.heap.size -> Kp W (W.alloc o))
  (I : List α -> World -> Prop) (Ix : Code -> List α -> World -> Prop) (hI : OwnFrom w.heap.size I) (hIx : ∀ c, OwnFrom w.heap.size (Ix c)) (h0 : I [] w) (a₁ : α -> Nat -> Act) (ob : α -> Obj) (_hob : ∀ x, (ob x).isCells = true)
  (hassign : ∀ (l : Nat) (x : α) (W : World) (K : Act -> World -> Prop), K (a₁ x W.heap.size) (W.alloc (ob x)) ->
   assign.wpIn (Fence.wide.inRound l) (n - 1 - 1) P (Exit.then K (fun _ _ _ => False)) { tmps := (ps.zip (encs x)).foldl (fun t (p, v) => t.setIfInBounds p v) a.tmps, defers := [] } W)
  (hbody : ∀ (l : Nat) (pre : List α) (x : α) (b : Nat) (W : World), I pre W -> G pre x -> w.heap.size <= b -> W.heap[b]? = some (ob x) -> body.wpIn (Fence.wide.inRound l) (n - 1 - 1) P (boxPostF Kp w.heap.size I Ix (pre ++ [x]) W) (a₁ x b) W)
  (hdone : ∀ (xs : List α) (W : World), S xs -> I xs W -> W.heap[w.heap.size]? = some (.deferred (some [])) -> Q .normal { a with defers := { target := .collected w.heap.size, args := #[] } :: a.defers } W)
  (hstop : ∀ (c : Code) (pre : List α) (W : World), Sp pre -> Ix c pre W -> W.heap[w.heap.size]? = some (.deferred (some [])) -> c.wpIn Fence.wide n P Q { a with defers := { target := .collected w.heap.size, args := #[] } :: a.defers } W) :
  (Code.rangeFunc g ps assign body).wpIn Fence.wide n P Q a w := by
 refine wpIn_rangeFunc ?_;intro f _;rw [wide_round];have hin := run_enterLoop_outer (P := P) (w := w) f a.tmps ps assign body;obtain ⟨W1, eW1⟩ : ∃ W1, W1 = (w.alloc (.deferred (some []))).alloc (.loop (recOf f a ps assign body w.heap.size .ready none)) := ⟨_, rfl⟩
 have hW1 : Two w.heap.size (recOf f a ps assign body w.heap.size .ready none) W1 := by
  rw [eW1];refine ⟨(heap_alloc_old _ _ _ (by simp)).trans (heap_alloc_new w _), ?_⟩;have h := heap_alloc_new (w.alloc (.deferred (some []))) (.loop (recOf f a ps assign body w.heap.size .ready none));simpa only [World.size_alloc] using h
 have hs1 : W1.heap.size = w.heap.size + 2 := (by rw [eW1]; simp);have hI1 : I [] W1 := (by rw [eW1]; exact hI.alloc _ (hI.alloc _ h0))
 have hb1 : Below w0.heap.size w0 W1 := by
  rw [eW1];exact hb0.trans ((((Below.refl _ w).alloc (nlr _) _).alloc (by simp) _).mono hb0.size)
 -- what holds between two rounds, and behind the last one
 obtain ⟨J, eJ⟩ : ∃ J : List α -> World -> Prop, J = fun pre W => I pre W /\ Two w.heap.size (recOf f a ps assign body w.heap.size .ready none) W := ⟨_, rfl⟩;obtain ⟨Jx, eJx⟩ : ∃ Jx : List α -> World -> Prop, Jx = fun pre W => ∃ c, Ix c pre W /\ Two w.heap.size (recOf f a ps assign body w.heap.size .done (some c)) W := ⟨_, rfl⟩
 have walkOwn : ∀ {A : World} {row : Option Nat}, (∀ r, row = some r -> W1.heap.size <= r /\ ∃ o : Obj, A.heap[r]? = some o /\ o.isWalk = true) -> ∀ r, row = some r -> w.heap.size <= r /\ ∃ o : Obj, A.heap[r]? = some o /\ o.isCells = false := fun h r e => by
  obtain ⟨k1, o, k2, k3⟩ := h r e;exact ⟨by omega, o, k2, Obj.not_cells_of_walk k3⟩
 have hJ : AbidesFrom W1.heap.size J := by
  rw [eJ];exact fun s A B row h hg hr => ⟨hI s A B row h.1 hg (walkOwn hr), h.2.grown hg (fun r e => (hr r e).2)⟩
 have hJx : AbidesFrom W1.heap.size Jx := by
  rw [eJx];rintro s A B row ⟨c, hc, h⟩ hg hr;exact ⟨c, hIx c s A B row hc hg (walkOwn hr), h.grown hg (fun r e => (hr r e).2)⟩
 have hround : ∀ pre x W, J pre W -> G pre x -> YieldAt Fence.wide (n - 1 - 1) P (w.heap.size + 1) (encs x) W fun e W' =>
   (e = .returned (.bool true) /\ J (pre ++ [x]) W' /\ Kp W W') \/ (e = .returned (.bool false) /\ Jx (pre ++ [x]) W') := by
  rw [eJ, eJx];rintro pre x W ⟨hi, ht⟩ hlen;have hlt : w.heap.size + 1 < W.heap.size := (Array.getElem?_eq_some_iff.1 ht.2).1;refine ⟨f, _, assign, body, run_yield (P := P) ht.2 (hps x), roundIn_of_wpIn (wide_fn _) (hassign _ x W _ ?_)⟩;have ht2 := ht.alloc (ob x);have hi2 := hI.alloc (ob x) hi;obtain ⟨V, eV⟩ : ∃ V, V = (W.alloc (ob x)).putObj (w.heap.size + 1) (.loop (recOf f a ps assign body w.heap.size .busy none)) := ⟨_, rfl⟩;have ht3 : Two w.heap.size (recOf f a ps assign body w.heap.size .busy none) V := (by rw [eV]; exact ht2.put _);have hi3 : I pre V := (by rw [eV]; exact hI.putObj _ hi2 (by omega) ht2.2 rfl)
  have hk3 : Kp W V := by
   rw [eV];exact hKt (hKa W _ (by omega)) (hKb _ _ _ _ (by omega) ht2.2 rfl rfl)
  have hb3 : V.heap[W.heap.size]? = some (ob x) := by
   rw [eV];exact (World.putObj_heap_other (by omega)).trans (heap_alloc_new W _)
  refine ⟨V, by rw [eV]; exact run_beginRound ht2.2 rfl, wpIn_mono (hbody _ pre x W.heap.size V hi3 hlen (by omega) hb3) ?_⟩;rintro e a3 W3 hp;cases e with
  | normal =>
   obtain ⟨ko, kp, ki⟩ := hp;have ht4 := ht3.stay ko;obtain ⟨hr, ht5⟩ := round_ends (P := P) none ht4;exact ⟨_, _, hr, .inl ⟨rfl, ⟨hI.putObj _ ki (by omega) ht4.2 rfl, ht5⟩, hKt (hKt hk3 kp) (hKb _ _ _ _ (by omega) ht4.2 rfl rfl)⟩⟩
  | exit id =>
   obtain ⟨ko, ki⟩ := hp;have ht4 := ht3.stay ko;obtain ⟨hr, ht5⟩ := round_ends (P := P) (some (.exit id)) ht4;exact ⟨_, _, hr, .inr ⟨rfl, .exit id, (hIx _).putObj _ ki (by omega) ht4.2 rfl, ht5⟩⟩
  | ret =>
   obtain ⟨ko, ki⟩ := hp;have ht4 := ht3.stay ko;obtain ⟨hr, ht5⟩ := round_ends (P := P) (some .ret) ht4;exact ⟨_, _, hr, .inr ⟨rfl, .ret, (hIx _).putObj _ ki (by omega) ht4.2 rfl, ht5⟩⟩
  | goto t => exact hp.elim
  | panic ch => exact hp.elim
  | outgrown => exact hp.elim
 have hcall := hseq (w.heap.size + 1) J Jx W1 hb1 hJ hJx hround (by rw [eJ]; exact ⟨hI1, hW1⟩);refine ⟨w.heap.size + 1, [{ target := .collected w.heap.size, args := #[] }], W1, { target := .fn (.func gf) lb, args := #[.func (.yield (w.heap.size + 1)) #[] #[]] }, W1, gf, #[.func (.yield (w.heap.size + 1)) #[] #[]] ++ lb, W1, ?_, ?_, ?_, ?_, fun _ => h1, ?_⟩
 ·rw [eW1];exact hin
 ·simp only [resolve, hg];simp [go_sem]
 ·intro f' hf';exact wide_fn f'
 ·simp [invoke, go_sem, eg]
 ·refine hcall.mono ?_;rw [eJ, eJx];rintro e W2 ⟨⟨v, rfl⟩, (⟨xs, hS, hi, ht⟩ | ⟨pre, hSp, c, hi, ht⟩)⟩
  ·exact ⟨none, _, run_endLoop (P := P) ht.2 (by simp [recOf]), hdone xs _ hS (hI.putObj _ hi (by omega) ht.2 rfl) (ht.put _).1⟩
  ·exact ⟨some c, _, run_endLoop (P := P) ht.2 (by simp [recOf]), hstop c pre _ hSp ((hIx c).putObj _ hi (by omega) ht.2 rfl) (ht.put _).1⟩
def OwnFromI {β : Type} (B : Nat) (I : β -> World -> Prop) : Prop :=
 ∀ s W W' row, I s W -> W.grownBy W' row -> (∀ r, row = some r -> B <= r /\ ∃ o : Obj, W.heap[r]? = some o /\ (o.isCells = false \/ ∃ cs fr, o = .cells cs 3 fr)) -> I s W'
theorem OwnFromI.own {β : Type} {B : Nat} {I : β -> World -> Prop} (h : OwnFromI B I) : OwnFrom B I := fun s W W' row hs hg hr => h s W W' row hs hg fun r e => by
 obtain ⟨h1, o, h2, h3⟩ := hr r e;exact ⟨h1, o, h2, .inl h3⟩
def SeqStopsO {α : Type} (F : Fence) (n : Nat) (P : Program) (g : Nat) (lb : Array Value) (encs : α -> Array Value) (Kp : World -> World -> Prop) (S Sp : List α -> Prop) (G : List α -> α -> Prop) (w : World) : Prop :=
 ∀ (l : Nat) (J Jx : List α -> World -> Prop) (W : World), Below w.heap.size w W -> OwnFromI W.heap.size J -> OwnFrom W.heap.size Jx ->
  (∀ pre x W1, J pre W1 -> G pre x -> YieldAt F (n - 1) P l (encs x) W1 fun e W' =>
   (e = .returned (.bool true) /\ J (pre ++ [x]) W' /\ Kp W1 W') \/ (e = .returned (.bool false) /\ Jx (pre ++ [x]) W' /\ Kp W1 W')) ->
  J [] W ->
  CallsIn F n P g (#[.func (.yield l) #[] #[]] ++ lb) W fun e W' => (∃ v, e = .returned v) /\ ((∃ xs, S xs /\ J xs W') \/ (∃ pre, Sp pre /\ Jx pre W'))
def boxPostO {α : Type} (Kp : World -> World -> Prop) (I : List α -> World -> Prop) (Ix : Code -> List α -> World -> Prop) (xs : List α) (W : World) : Exit -> Act -> World -> Prop
 | .normal, _, W' => KeepsOthers W W' /\ Kp W W' /\ I xs W'
 | .exit id, _, W' => KeepsOthers W W' /\ Kp W W' /\ Ix (.exit id) xs W'
 | .ret, _, W' => KeepsOthers W W' /\ Kp W W' /\ Ix .ret xs W'
 | _, _, _ => False
theorem Two.far {B : Nat} {r : Loop} {W W' : World} {row : Option Nat} (h : Two B r W) (hg : W.grownBy W' row) (hr : ∀ k, row = some k -> B + 2 <= k) : Two B r W' :=
 ⟨(hg.block B (Array.getElem?_eq_some_iff.1 h.1).1 fun e => by have := hr B e.symm; omega).trans h.1, (hg.block (B + 1) (Array.getElem?_eq_some_iff.1 h.2).1 fun e => by have := hr (B + 1) e.symm; omega).trans h.2⟩
set_option maxHeartbeats 400000 in
theorem range_boxed_own {g : Operand} {ps : Array Tmp} {assign body : Code} {Q : Exit -> Act -> World -> Prop} {a : Act} {w : World} (h1 : 1 <= n) {gf : Nat} {lb : Array Value} (hg : a.eval g = .func (.func gf) #[] lb) (eg : ∀ args w, (callFunc gf args).run P w = .ok (.enter gf args) w)
  {encs : α -> Array Value} {Kp : World -> World -> Prop} {S Sp : List α -> Prop} {G : List α -> α -> Prop} {w0 : World} (hseq : SeqStopsO Fence.wide (n - 1) P gf lb encs Kp S Sp G w0) (hb0 : Below w0.heap.size w0 w) (hps : ∀ x, (encs x).size = ps.size)
  (hKt : ∀ {A B C : World}, Kp A B -> Kp B C -> Kp A C) (hKb : ∀ (W : World) (l : Nat) (o o' : Obj), w.heap.size <= l -> l < w.heap.size + 2 -> W.heap[l]? = some o -> o.isCells = false -> o.isWalk = false -> Kp W (W.putObj l o')) (hKa : ∀ (W : World) (o : Obj), w.heap.size <= W.heap.size -> Kp W (W.alloc o))
  (I : List α -> World -> Prop) (Ix : Code -> List α -> World -> Prop) (hI : OwnFromI w.heap.size I) (hIx : ∀ c, OwnFrom w.heap.size (Ix c)) (h0 : I [] w) (a₁ : α -> Nat -> Act) (ob : α -> Obj) (_hob : ∀ x, (ob x).isCells = true)
  (hassign : ∀ (l : Nat) (x : α) (W : World) (K : Act -> World -> Prop), K (a₁ x W.heap.size) (W.alloc (ob x)) ->
   assign.wpIn (Fence.wide.inRound l) (n - 1 - 1) P (Exit.then K (fun _ _ _ => False)) { tmps := (ps.zip (encs x)).foldl (fun t (p, v) => t.setIfInBounds p v) a.tmps, defers := [] } W)
  (hbody : ∀ (l : Nat) (pre : List α) (x : α) (b : Nat) (W : World), I pre W -> G pre x -> w.heap.size <= b -> W.heap[b]? = some (ob x) -> body.wpIn (Fence.wide.inRound l) (n - 1 - 1) P (boxPostO Kp I Ix (pre ++ [x]) W) (a₁ x b) W)
  (hdone : ∀ (xs : List α) (W : World), S xs -> I xs W -> W.heap[w.heap.size]? = some (.deferred (some [])) -> Q .normal { a with defers := { target := .collected w.heap.size, args := #[] } :: a.defers } W)
  (hstop : ∀ (c : Code) (pre : List α) (W : World), Sp pre -> Ix c pre W -> W.heap[w.heap.size]? = some (.deferred (some [])) -> c.wpIn Fence.wide n P Q { a with defers := { target := .collected w.heap.size, args := #[] } :: a.defers } W) :
  (Code.rangeFunc g ps assign body).wpIn Fence.wide n P Q a w := by
 have hIO := hI;replace hI := hI.own;refine wpIn_rangeFunc ?_;intro f _;rw [wide_round];have hin := run_enterLoop_outer (P := P) (w := w) f a.tmps ps assign body;obtain ⟨W1, eW1⟩ : ∃ W1, W1 = (w.alloc (.deferred (some []))).alloc (.loop (recOf f a ps assign body w.heap.size .ready none)) := ⟨_, rfl⟩
 have hW1 : Two w.heap.size (recOf f a ps assign body w.heap.size .ready none) W1 := by
  rw [eW1];refine ⟨(heap_alloc_old _ _ _ (by simp)).trans (heap_alloc_new w _), ?_⟩;have h := heap_alloc_new (w.alloc (.deferred (some []))) (.loop (recOf f a ps assign body w.heap.size .ready none));simpa only [World.size_alloc] using h
 have hs1 : W1.heap.size = w.heap.size + 2 := (by rw [eW1]; simp);have hI1 : I [] W1 := (by rw [eW1]; exact hI.alloc _ (hI.alloc _ h0))
 have hb1 : Below w0.heap.size w0 W1 := by
  rw [eW1];exact hb0.trans ((((Below.refl _ w).alloc (nlr _) _).alloc (by simp) _).mono hb0.size)
 -- what holds between two rounds, and behind the last one
 obtain ⟨J, eJ⟩ : ∃ J : List α -> World -> Prop, J = fun pre W => I pre W /\ Two w.heap.size (recOf f a ps assign body w.heap.size .ready none) W := ⟨_, rfl⟩;obtain ⟨Jx, eJx⟩ : ∃ Jx : List α -> World -> Prop, Jx = fun pre W => ∃ c, Ix c pre W /\ Two w.heap.size (recOf f a ps assign body w.heap.size .done (some c)) W := ⟨_, rfl⟩
 have hJ : OwnFromI W1.heap.size J := by
  rw [eJ];exact fun s A B row h hg hr => ⟨hIO s A B row h.1 hg (fun r e => ⟨by have := (hr r e).1; omega, (hr r e).2⟩), h.2.far hg (fun r e => by have := (hr r e).1; omega)⟩
 have hJx : OwnFrom W1.heap.size Jx := by
  rw [eJx];rintro s A B row ⟨c, hc, h⟩ hg hr;exact ⟨c, hIx c s A B row hc hg (fun r e => ⟨by have := (hr r e).1; omega, (hr r e).2⟩), h.far hg (fun r e => by have := (hr r e).1; omega)⟩
 have hround : ∀ pre x W, J pre W -> G pre x -> YieldAt Fence.wide (n - 1 - 1) P (w.heap.size + 1) (encs x) W fun e W' =>
   (e = .returned (.bool true) /\ J (pre ++ [x]) W' /\ Kp W W') \/ (e = .returned (.bool false) /\ Jx (pre ++ [x]) W' /\ Kp W W') := by
  rw [eJ, eJx];rintro pre x W ⟨hi, ht⟩ hlen;have hlt : w.heap.size + 1 < W.heap.size := (Array.getElem?_eq_some_iff.1 ht.2).1;refine ⟨f, _, assign, body, run_yield (P := P) ht.2 (hps x), roundIn_of_wpIn (wide_fn _) (hassign _ x W _ ?_)⟩;have ht2 := ht.alloc (ob x);have hi2 := hI.alloc (ob x) hi;obtain ⟨V, eV⟩ : ∃ V, V = (W.alloc (ob x)).putObj (w.heap.size + 1) (.loop (recOf f a ps assign body w.heap.size .busy none)) := ⟨_, rfl⟩;have ht3 : Two w.heap.size (recOf f a ps assign body w.heap.size .busy none) V := (by rw [eV]; exact ht2.put _);have hi3 : I pre V := (by rw [eV]; exact hI.putObj _ hi2 (by omega) ht2.2 rfl)
  have hk3 : Kp W V := by
   rw [eV];exact hKt (hKa W _ (by omega)) (hKb _ _ _ _ (by omega) (by omega) ht2.2 rfl rfl)
  have hb3 : V.heap[W.heap.size]? = some (ob x) := by
   rw [eV];exact (World.putObj_heap_other (by omega)).trans (heap_alloc_new W _)
  refine ⟨V, by rw [eV]; exact run_beginRound ht2.2 rfl, wpIn_mono (hbody _ pre x W.heap.size V hi3 hlen (by omega) hb3) ?_⟩;rintro e a3 W3 hp;cases e with
  | normal =>
   obtain ⟨ko, kp, ki⟩ := hp;have ht4 := ht3.others ko;obtain ⟨hr, ht5⟩ := round_ends (P := P) none ht4;exact ⟨_, _, hr, .inl ⟨rfl, ⟨hI.putObj _ ki (by omega) ht4.2 rfl, ht5⟩, hKt (hKt hk3 kp) (hKb _ _ _ _ (by omega) (by omega) ht4.2 rfl rfl)⟩⟩
  | exit id =>
   obtain ⟨ko, kp, ki⟩ := hp;have ht4 := ht3.others ko;obtain ⟨hr, ht5⟩ := round_ends (P := P) (some (.exit id)) ht4;exact ⟨_, _, hr, .inr ⟨rfl, ⟨.exit id, (hIx _).putObj _ ki (by omega) ht4.2 rfl, ht5⟩, hKt (hKt hk3 kp) (hKb _ _ _ _ (by omega) (by omega) ht4.2 rfl rfl)⟩⟩
  | ret =>
   obtain ⟨ko, kp, ki⟩ := hp;have ht4 := ht3.others ko;obtain ⟨hr, ht5⟩ := round_ends (P := P) (some .ret) ht4;exact ⟨_, _, hr, .inr ⟨rfl, ⟨.ret, (hIx _).putObj _ ki (by omega) ht4.2 rfl, ht5⟩, hKt (hKt hk3 kp) (hKb _ _ _ _ (by omega) (by omega) ht4.2 rfl rfl)⟩⟩
  | goto t => exact hp.elim
  | panic ch => exact hp.elim
  | outgrown => exact hp.elim
 have hcall := hseq (w.heap.size + 1) J Jx W1 hb1 hJ hJx hround (by rw [eJ]; exact ⟨hI1, hW1⟩);refine ⟨w.heap.size + 1, [{ target := .collected w.heap.size, args := #[] }], W1, { target := .fn (.func gf) lb, args := #[.func (.yield (w.heap.size + 1)) #[] #[]] }, W1, gf, #[.func (.yield (w.heap.size + 1)) #[] #[]] ++ lb, W1, ?_, ?_, ?_, ?_, fun _ => h1, ?_⟩
 ·rw [eW1];exact hin
 ·simp only [resolve, hg];simp [go_sem]
 ·intro f' hf';exact wide_fn f'
 ·simp [invoke, go_sem, eg]
 ·refine hcall.mono ?_;rw [eJ, eJx];rintro e W2 ⟨⟨v, rfl⟩, (⟨xs, hS, hi, ht⟩ | ⟨pre, hSp, c, hi, ht⟩)⟩
  ·exact ⟨none, _, run_endLoop (P := P) ht.2 (by simp [recOf]), hdone xs _ hS (hI.putObj _ hi (by omega) ht.2 rfl) (ht.put _).1⟩
  ·exact ⟨some c, _, run_endLoop (P := P) ht.2 (by simp [recOf]), hstop c pre _ hSp ((hIx c).putObj _ hi (by omega) ht.2 rfl) (ht.put _).1⟩
end
end Go.Proofs.YtflkfleihlceeaaGreatDoor

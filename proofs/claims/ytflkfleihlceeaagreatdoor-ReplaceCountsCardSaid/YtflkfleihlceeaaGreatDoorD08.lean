import Derived.Test.YtflkfleihlceeaaGreatDoorD04
import Derived.Test.YtflkfleihlceeaaGreatDoorD06
import Derived.Test.YtflkfleihlceeaaGreatDoorD07
import Derived.Maps.Own
import Derived.DeepKeys4
import Derived.ProofKit
import Derived.WalkArith
/-
 A tree's nodes with the numbers of their kids: as data and as cells. No condition.
-/
namespace Go.Proofs.YtflkfleihlceeaaGreatDoor
open Go.RowKit Go.Deep Go.Sort
def PN.set : PN -> Nat -> Nat | .mk _ S _ _ _ _ => S
def PN.lo : PN -> Int | .mk _ _ lo _ _ _ => lo
def PN.hi : PN -> Int | .mk _ _ _ hi _ _ => hi
def PN.num : PN -> Int | .mk _ _ _ _ num _ => num
def nothing : PN := .mk 0 noS 0 0 0 []
def kidsK (k : Int) (ks : List PN) : List PN := if k = 2 \/ k = 3 then ks else if k = 4 \/ k = 5 then [ks.headD nothing] else []
def kidsOf (t : PN) : List PN := kidsK t.kind t.kids
theorem sem_nothing (T : List UInt8) (b : Bool) : semT T b nothing = fun i j => i == j := by
 unfold nothing;rw [semT];simp [semK]
theorem ev_nothing (T : List UInt8) (b : Bool) : evT T b nothing = fun _ _ => [] := by
 unfold nothing;rw [evT]
 funext i j
 simp [evK]
theorem sem_cnt (T : List UInt8) (b : Bool) (t : PN) : semT T b t = semK T b t.kind t.set t.lo t.hi (semL T b (kidsOf t)) := by
 obtain ⟨k, S, lo, hi, num, ks⟩ := t;rw [semT];show semK T b k S lo hi (semL T b ks) = semK T b k S lo hi (semL T b (kidsK k ks))
 have hh : ∀ _ : k = 4 \/ k = 5, headR (semL T b (kidsK k ks)) = headR (semL T b ks) := fun h => by
  unfold kidsK;rw [if_neg (by omega), if_pos h];cases ks with
  | nil =>
   show headR (semL T b [nothing]) = headR (semL T b []);simp only [semL, headR];exact sem_nothing T b
  | cons t ts => simp [semL, headR]
 unfold semK;by_cases h1 : k = 1
 ·simp [h1]
 by_cases h2 : k = 2
 ·subst h2; simp [kidsK]
 by_cases h3 : k = 3
 ·subst h3; simp [kidsK]
 by_cases h4 : k = 4
 ·subst h4; simp [hh]
 by_cases h5 : k = 5
 ·subst h5; simp [hh]
 simp [h1, h2, h3, h4, h5]
theorem emp_nothing : empT nothing = 15 := by
 unfold nothing;rw [empT];simp [empK]
theorem emp_cnt (t : PN) : empT t = empK t.kind t.lo (empL (kidsOf t)) := by
 obtain ⟨k, S, lo, hi, num, ks⟩ := t;rw [empT];show empK k lo (empL ks) = empK k lo (empL (kidsK k ks))
 have hh : ∀ _ : k = 4 \/ k = 5, headN (empL (kidsK k ks)) = headN (empL ks) := fun h => by
  unfold kidsK;rw [if_neg (by omega), if_pos h];cases ks with
  | nil =>
   show headN (empL [nothing]) = headN (empL []);simp only [empL, headN];exact emp_nothing
  | cons t ts => simp [empL, headN]
 unfold empK;by_cases h1 : k = 1
 ·simp [h1]
 by_cases h2 : k = 2
 ·subst h2; simp [kidsK]
 by_cases h3 : k = 3
 ·subst h3; simp [kidsK]
 by_cases h4 : k = 4
 ·subst h4; simp [hh]
 by_cases h5 : k = 5
 ·subst h5; simp [hh]
 simp [h1, h2, h3, h4, h5]
theorem ev_cnt (T : List UInt8) (b : Bool) (t : PN) : evT T b t = evK t.kind t.lo t.hi t.num (semL T b (kidsOf t)) (evL T b (kidsOf t)) := by
 obtain ⟨k, S, lo, hi, num, ks⟩ := t;rw [evT];show evK k lo hi num (semL T b ks) (evL T b ks) = evK k lo hi num (semL T b (kidsK k ks)) (evL T b (kidsK k ks))
 have hh : ∀ _ : k = 4 \/ k = 5, headR (semL T b (kidsK k ks)) = headR (semL T b ks) /\ headE (evL T b (kidsK k ks)) = headE (evL T b ks) := fun h => by
  unfold kidsK;rw [if_neg (by omega), if_pos h];cases ks with
  | nil =>
   show headR (semL T b [nothing]) = headR (semL T b []) /\ headE (evL T b [nothing]) = headE (evL T b []);simp only [semL, headR, evL, headE];exact ⟨sem_nothing T b, ev_nothing T b⟩
  | cons t ts => simp [semL, headR, evL, headE]
 unfold evK;by_cases h2 : k = 2
 ·subst h2; simp [kidsK]
 by_cases h3 : k = 3
 ·subst h3; simp [kidsK]
 by_cases h4 : k = 4
 ·subst h4; simp [hh]
 by_cases h5 : k = 5
 ·subst h5; simp [hh]
 simp [h2, h3, h4, h5]
def spanB (num : Int) : Bool := decide (1 <= num) && decide (num < 10)
mutual
def grpT : PN -> Bool
 | .mk k _ _ _ num ks => (if k = 2 \/ k = 3 then grpL ks else if k = 4 \/ k = 5 then grpH ks else false) || (decide (k = 5) && spanB num)
def grpL : List PN -> Bool
 | [] => false
 | t :: ts => grpT t || grpL ts
def grpH : List PN -> Bool
 | [] => false
 | t :: _ => grpT t
end
theorem grpL_any : ∀ ks : List PN, grpL ks = ks.any grpT
 | [] => by simp [grpL]
 | t :: ts => by simp [grpL, grpL_any ts]
theorem grp_nothing : grpT nothing = false := by
 unfold nothing;rw [grpT];simp
theorem grp_cnt (t : PN) : grpT t = ((kidsOf t).any grpT || (decide (t.kind = 5) && spanB t.num)) := by
 obtain ⟨k, S, lo, hi, num, ks⟩ := t;rw [grpT];show _ = ((kidsK k ks).any grpT || (decide (k = 5) && spanB num))
 congr 1
 unfold kidsK;by_cases h2 : k = 2 \/ k = 3
 ·rw [if_pos h2, if_pos h2, grpL_any]
 ·rw [if_neg h2, if_neg h2];by_cases h4 : k = 4 \/ k = 5
  ·rw [if_pos h4, if_pos h4];cases ks with
   | nil => simp [grpH, grp_nothing]
   | cons t ts => simp [grpH]
  ·rw [if_neg h4, if_neg h4];rfl
theorem evL_at (T : List UInt8) (b : Bool) (ks : List PN) (i : Nat) : (evL T b ks)[i]? = (ks[i]?).map (evT T b) := by rw [evL_eq, List.getElem?_map]
theorem semL_at (T : List UInt8) (b : Bool) (ks : List PN) (i : Nat) : (semL T b ks)[i]? = (ks[i]?).map (semT T b) := by rw [semL_eq, List.getElem?_map]
theorem empL_eq : ∀ ks : List PN, empL ks = ks.map empT
 | [] => by simp [empL]
 | t :: ts => by simp [empL, empL_eq ts]
def NoEv (e : EvF) : Prop := ∀ i j, e i j = []
theorem NoEv.row {rs : List Rel} : ∀ {es : List EvF}, (∀ e ∈ es, NoEv e) -> NoEv (rowE rs es) := by
 induction rs with
 | nil => intro es _ i j; cases es <;> simp [rowE]
 | cons r rs ih =>
  intro es h i j;cases es with
  | nil => simp [rowE]
  | cons e es =>
   simp only [rowE];rw [h e (List.mem_cons_self ..), ih fun f hf => h f (List.mem_cons_of_mem _ hf)];rfl
theorem NoEv.alt {rs : List Rel} : ∀ {es : List EvF}, (∀ e ∈ es, NoEv e) -> NoEv (altE rs es) := by
 induction rs with
 | nil => intro es _ i j; cases es <;> simp [altE]
 | cons r rs ih =>
  intro es h i j;cases es with
  | nil => simp [altE]
  | cons e es =>
   simp only [altE];split
   ·exact h e (List.mem_cons_self ..) i j
   ·exact ih (fun f hf => h f (List.mem_cons_of_mem _ hf)) i j
theorem NoEv.rep {K : Rel} {e : EvF} (h : NoEv e) : ∀ (n : Nat) (lo hi : Int), NoEv (repE K e n lo hi)
 | 0, lo, hi => fun i j => by rw [repE]; split <;> simp [h i i]
 | n + 1, lo, hi => fun i j => by
  rw [repE];split
  ·split <;> simp [h i i]
  ·simp only;rw [h, NoEv.rep h n];rfl
theorem NoEv.head {es : List EvF} (h : ∀ e ∈ es, NoEv e) : NoEv (headE es) := by
 cases es with
 | nil => exact fun _ _ => rfl
 | cons e es => exact h e (List.mem_cons_self ..)
theorem NoEv.node {k lo hi num : Int} {rs : List Rel} {es : List EvF} (h : ∀ e ∈ es, NoEv e) (hs : ¬ (k = 5 /\ spanB num = true)) : NoEv (evK k lo hi num rs es) := fun i j => by
 unfold evK;split
 ·exact NoEv.row h i j
 split
 ·exact NoEv.alt h i j
 split
 ·exact NoEv.rep (NoEv.head h) _ _ _ i j
 split
 ·rename_i h5;rw [NoEv.head h i j, if_neg]
  ·rfl
  ·rintro ⟨h1, h2⟩;exact hs ⟨h5, by simp [spanB]; omega⟩
 ·rfl
mutual
theorem no_ev (T : List UInt8) (b : Bool) : ∀ t : PN, grpT t = false -> NoEv (evT T b t)
 | .mk k S lo hi num ks => fun h => by
  rw [grpT, Bool.or_eq_false_iff] at h;rw [evT];have hs : ¬ (k = 5 /\ spanB num = true) := fun ⟨h1, h2⟩ => by rw [h2] at h; simp [h1] at h
  by_cases h2 : k = 2 \/ k = 3
  ·rw [if_pos h2] at h;exact NoEv.node (no_evL T b ks h.1) hs
  ·rw [if_neg h2] at h;by_cases h4 : k = 4 \/ k = 5
   ·rw [if_pos h4] at h;have hh := no_evH T b ks h.1;intro i j;unfold evK;rw [if_neg (by omega), if_neg (by omega)];split
    ·exact NoEv.rep hh _ _ _ i j
    ·rw [if_pos (by omega), hh i j, if_neg]
     ·rfl
     ·rintro ⟨a, c⟩;exact hs ⟨by omega, by simp [spanB]; omega⟩
   ·intro i j;unfold evK;rw [if_neg (by omega), if_neg (by omega), if_neg (by omega), if_neg (by omega)]
theorem no_evL (T : List UInt8) (b : Bool) : ∀ ks : List PN, grpL ks = false -> ∀ e ∈ evL T b ks, NoEv e
 | [], _, e, he => by simp [evL] at he
 | t :: ts, h, e, he => by
  rw [grpL, Bool.or_eq_false_iff] at h;rw [evL, List.mem_cons] at he;rcases he with rfl | he
  ·exact no_ev T b t h.1
  ·exact no_evL T b ts h.2 e he
theorem no_evH (T : List UInt8) (b : Bool) : ∀ ks : List PN, grpH ks = false -> NoEv (headE (evL T b ks))
 | [], _ => by simp only [evL, headE]; exact fun _ _ => rfl
 | t :: ts, h => by
  rw [grpH] at h;simp only [evL, headE];exact no_ev T b t h
end
structure ND where
 t : PN
 x : NV
 kA : Option Addr
 kc : Nat
 ks : List Nat
 e : Nat
 g : Bool
 fn : Value
def ND.cells (d : ND) : List Value := [.int .i64 d.x.kind, .int .u64 (d.x.set 0), .int .u64 (d.x.set 1), .int .u64 (d.x.set 2), .int .u64 (d.x.set 3), .int .i64 d.x.lo, .int .i64 d.x.hi, .int .i64 d.x.num, .slice d.x.A d.x.n d.x.c, .slice d.kA d.ks.length d.kc, .int .u8 d.e, .bool d.g, d.fn]
def ndsV (l : List ND) : List Value := l.flatMap ND.cells
theorem ndsV_append (a b : List ND) : ndsV (a ++ b) = ndsV a ++ ndsV b := by simp [ndsV]
theorem ndsV_at : ∀ {xs : List ND} (i : Nat) (x : ND), xs[i]? = some x -> ∀ (j : Nat) (v : Value), x.cells[j]? = some v -> (ndsV xs)[i * 13 + j]? = some v
 | [], i, f, h, _, _, _ => by simp at h
 | a :: r, 0, f, h, j, v, hv => by
  simp at h;subst h;have hj : j < a.cells.length := (List.getElem?_eq_some_iff.1 hv).1;simp only [ndsV, List.flatMap_cons, Nat.zero_mul, Nat.zero_add];rw [List.getElem?_append_left hj];exact hv
 | a :: r, i + 1, f, h, j, v, hv => by
  have := ndsV_at (xs := r) i f (by simpa using h) j v hv;simp only [ndsV, List.flatMap_cons];have h3 : a.cells.length = 13 := rfl;rw [List.getElem?_append_right (by omega), h3, show (i + 1) * 13 + j - 13 = i * 13 + j by omega];exact this
def intsV (ks : List Nat) : List Value := ks.map fun (m : Nat) => .int .i64 (m : Int)
theorem intsV_at {ks : List Nat} {i m : Nat} (h : ks[i]? = some m) : (intsV ks)[i]? = some (.int .i64 (m : Int)) := by simp [intsV, h]
open Go.RowKit Go.Deep Go.Sort
def heldE (v : Value) : Option (DataW Value × List MemPlace) := some (.held v, [])
def keyV (k i : Nat) : Value := .agg #[.int .i64 (k : Int), .int .i64 (i : Int)]
theorem laid_out : laidOutB Tryz.prog = true := by kernel_rfl
set_option maxRecDepth 100000 in
theorem keyed_state : Maps.Keyed Tryz.prog 151 := Maps.Keyed.of_law (deep_law_laid laid_out (m := 3) (by decide) (of_decide_eq_true (by kernel_rfl)) (by kernel_rfl) (by kernel_rfl))
theorem wf_nat {n : Nat} (h : n < 9223372036854775808) : (Lit.int .i64 (n : Int)).wf = true := WalkArith.wf_i64 (by omega)
set_option maxRecDepth 100000 in
theorem keyLits_state (d : Nat) {a b : Int} (ha : (Lit.int .i64 a).wf = true) (hb : (Lit.int .i64 b).wf = true) : ∃ ls, Tryz.prog.keyLits (d + 2) 151 [.int .i64 a, .int .i64 b] = some ls := by
 have hi : ∀ (x : Int), (Lit.int .i64 x).wf = true -> Tryz.prog.keyLits (d + 1) 3 [.int .i64 x] = some [.int .i64 x] := fun x hx => by
  unfold Program.keyLits;simp [Tryz.underlying3, hx]
 unfold Program.keyLits;have hc : Tryz.prog.cellsOf 3 = 1 := (by kernel_rfl);have hs : Tryz.prog.cellsOf 151 = 2 := (by kernel_rfl);simp [Tryz.underlying151, hc, hs, hi a ha, hi b hb]
set_option maxRecDepth 100000 in
theorem keyOf_state {k i : Nat} (hk : k < 9223372036854775808) (hi : i < 9223372036854775808) : ∃ l, keyOf Tryz.prog 151 (keyV k i) = some l := by
 have e1 : Tryz.prog.keyType 151 = true := (by kernel_rfl);have hs : Tryz.prog.cellsOf 151 = 2 := (by kernel_rfl)
 have e2 : (keyV k i).formed Tryz.prog 151 = true := by
  unfold keyV Value.formed;simp [Tryz.underlying151, hs]
 obtain ⟨d, hd⟩ : ∃ d, Tryz.prog.types.size + 1 = d + 2 := ⟨Tryz.prog.types.size - 1, by
  have h1 : 1 <= Tryz.prog.types.size := of_decide_eq_true (by kernel_rfl)
  omega⟩
 obtain ⟨ls, hls⟩ := keyLits_state d (wf_nat hk) (wf_nat hi);refine ⟨.string (keyBytes ls), ?_⟩;unfold keyOf;simp only [Tryz.underlying151];rw [e1, e2, hd];show (if (true && true) = true then (Tryz.prog.keyLits (d + 2) _ [.int .i64 (k : Int), .int .i64 (i : Int)]).map _ else none) = _;rw [hls];rfl
def KeptE (Q : Nat -> Nat -> Ix -> Prop) (M N : Nat) (x : MapEntry) : Prop := ∃ k i X, x.key = keyV k i /\ k < M /\ i <= N /\ x.val = X.v /\ Q k i X
def KeptAt (w : World) (mb M N : Nat) (Q : Nat -> Nat -> Ix -> Prop) : Prop := ∃ es c, w.heap[mb]? = some (.map es c) /\ WideElems.Fit Tryz.prog 151 heldE es c /\ ∀ x ∈ es.toList, KeptE Q M N x
theorem KeptAt.made (w : World) (M N : Nat) (Q : Nat -> Nat -> Ix -> Prop) : KeptAt (w.alloc (.map #[] 0)) w.heap.size M N Q :=
 ⟨#[], 0, (MapKept.heap_alloc w _).1, ⟨by simp, MapKept.stamped_empty 0, by simp⟩, by simp⟩
theorem KeptAt.same {w w' : World} {mb M N : Nat} {Q Q' : Nat -> Nat -> Ix -> Prop} (h : KeptAt w mb M N Q) (hb : w'.heap[mb]? = w.heap[mb]?) (hq : ∀ k i X, Q k i X -> Q' k i X) : KeptAt w' mb M N Q' := by
 obtain ⟨es, c, h1, h2, h3⟩ := h;refine ⟨es, c, hb.trans h1, h2, fun x hx => ?_⟩;obtain ⟨k, i, X, a, b, c', d, e⟩ := h3 x hx;exact ⟨k, i, X, a, b, c', d, hq k i X e⟩
theorem KeptAt.lt {w : World} {mb M N : Nat} {Q : Nat -> Nat -> Ix -> Prop} (h : KeptAt w mb M N Q) : mb < w.heap.size := by
 obtain ⟨es, c, h1, _⟩ := h;exact lts h1
theorem keyV_inj {k i k' i' : Nat} (h : keyV k i = keyV k' i') : k = k' /\ i = i' := by
 unfold keyV at h;simp only [Value.agg.injEq, Array.mk.injEq, List.cons.injEq, Value.int.injEq, true_and, and_true] at h;omega
theorem nodup_lt : ∀ (n : Nat) (l : List Nat), l.Nodup -> (∀ x ∈ l, x < n) -> l.length <= n
 | 0, l, _, h => by
  cases l with
  | nil => simp
  | cons a l => exact absurd (h a (List.mem_cons_self ..)) (Nat.not_lt_zero _)
 | n + 1, l, hd, h => by
  by_cases hm : n ∈ l
  ·have h1 := nodup_lt n (l.erase n) (hd.erase n) (fun x hx => by
    have h2 := (List.Nodup.mem_erase_iff hd).1 hx;have := h x h2.2
    omega)
   have h3 := List.length_erase_of_mem hm;have h4 := List.length_pos_of_mem hm;omega
  ·have := nodup_lt n l hd (fun x hx => by
    have h2 := h x hx;have : x ≠ n := fun e => hm (e ▸ hx)
    omega)
   omega
def cellI (v : Value) (j : Nat) : Nat := match v with
 | .agg cs => (match cs[j]? with | some (.int _ n) => n.toNat | _ => 0)
 | _ => 0
def codeOf (N : Nat) (v : Value) : Nat := cellI v 0 * (N + 1) + cellI v 1
theorem codeOf_key (N k i : Nat) : codeOf N (keyV k i) = k * (N + 1) + i := by simp [codeOf, cellI, keyV]
theorem code_inj {N k i k' i' : Nat} (hi : i <= N) (hi' : i' <= N) (h : k * (N + 1) + i = k' * (N + 1) + i') : k = k' /\ i = i' := by
 have hk : k = k' := by
  have h1 : (k * (N + 1) + i) / (N + 1) = k := by
   rw [Nat.mul_comm, Nat.mul_add_div (by omega), Nat.div_eq_of_lt (by omega), Nat.add_zero]
  have h2 : (k' * (N + 1) + i') / (N + 1) = k' := by
   rw [Nat.mul_comm, Nat.mul_add_div (by omega), Nat.div_eq_of_lt (by omega), Nat.add_zero]
  rw [<- h1, h, h2]
 subst hk;exact ⟨rfl, by omega⟩
theorem KeptAt.few {es : Array MapEntry} {c M N : Nat} {Q : Nat -> Nat -> Ix -> Prop} (hs : MapKept.Stamped es c) (h : ∀ x ∈ es.toList, KeptE Q M N x) : es.size <= M * (N + 1) := by
 have hp := ((MapKept.stamped_iff es c).1 hs).2.2
 have hnd : (es.toList.map fun x => codeOf N x.key).Nodup := by
  rw [List.Nodup, List.pairwise_map];refine hp.imp_of_mem fun {a b} ha hb hne hc => ?_;obtain ⟨k, i, X, a1, a2, a3, a4, _⟩ := h a ha;obtain ⟨k', i', X', b1, b2, b3, b4, _⟩ := h b hb;rw [a1, b1, codeOf_key, codeOf_key] at hc;obtain ⟨e1, e2⟩ := code_inj a3 b3 hc;exact hne (by rw [a1, b1, e1, e2])
 have := nodup_lt (M * (N + 1)) _ hnd (fun x hx => by
  obtain ⟨y, hy, rfl⟩ := List.mem_map.1 hx;obtain ⟨k, i, X, a1, a2, a3, a4, _⟩ := h y hy;rw [a1, codeOf_key];have : (k + 1) * (N + 1) <= M * (N + 1) := Nat.mul_le_mul_right _ a2;rw [Nat.add_mul] at this
  omega)
 simpa using this
theorem map_type : Tryz.prog.underlying 97 = some (.map 151 68) := Tryz.underlying97
set_option maxRecDepth 100000 in
theorem zero_ix (w : World) : (zeroValue 68).run Tryz.prog w = .ok (.agg #[.int .i64 0, .slice none 0 0]) w := by kernel_rfl
theorem KeptAt.look {w : World} {mb M N : Nat} {Q : Nat -> Nat -> Ix -> Prop} (h : KeptAt w mb M N Q) {k i : Nat} (hk : k < 9223372036854775808) (hi : i < 9223372036854775808) :
  (Instr.lookup 97 (.map (some mb)) (keyV k i) true).run Tryz.prog w = .ok (.tuple #[.agg #[.int .i64 0, .slice none 0 0], .bool false]) w ∨
  ∃ X, Q k i X /\ (Instr.lookup 97 (.map (some mb)) (keyV k i) true).run Tryz.prog w = .ok (.tuple #[X.v, .bool true]) w := by
 obtain ⟨es, c, h1, h2, h3⟩ := h;obtain ⟨l, hl⟩ := keyOf_state hk hi;rcases Maps.fit_look true keyed_state map_type (zero_ix w) h1 h2 hl with ⟨hrun, _⟩ | ⟨e0, y, hm, hkey, hrun, _⟩
 ·exact .inl hrun
 ·obtain ⟨k', i', X, a, _, _, d, e⟩ := h3 e0 hm;rw [hkey] at a;obtain ⟨rfl, rfl⟩ := keyV_inj a;exact .inr ⟨X, e, by rw [hrun, d]; rfl⟩
theorem KeptAt.store {w : World} {mb M N : Nat} {Q : Nat -> Nat -> Ix -> Prop} (h : KeptAt w mb M N Q) {k i : Nat} (hk : k < M) (hi : i <= N) (hM : M <= 1000000) (hN : N <= 1000000) {X : Ix} (hX : Q k i X) :
  ∃ w', (Instr.mapUpdate 97 (.map (some mb)) (keyV k i) X.v).run Tryz.prog w = .ok () w' /\ KeptAt w' mb M N Q /\ Turned (· = mb) w w' := by
 obtain ⟨es, c, h1, h2, h3⟩ := h;obtain ⟨l, hl⟩ := keyOf_state (k := k) (i := i) (by omega) (by omega)
 have hroom : es.size < maxLen := by
  have h4 := KeptAt.few h2.stamped h3;have h5 : M * (N + 1) <= 1000000 * 1000001 := Nat.mul_le_mul hM (by omega);have h6 : (1000000 * 1000001 : Nat) < maxLen := (by decide);omega
 obtain ⟨es', c', hrun, hf, _, _, _, hes⟩ := Maps.fit_store (R := heldE) (R' := heldE) keyed_state map_type h1 h2 hroom (fun _ _ _ z hz => hz) hl (val := X.v) rfl;refine ⟨_, hrun, ⟨es', c', ChangeMaps.heap_setBlock_same h1 _, hf, fun x hx => ?_⟩, ⟨rfl, rfl, rfl, by simp [ChangeMaps.setBlock], fun j _ hj => ChangeMaps.heap_setBlock_other h1 _ hj⟩⟩;rcases hes x hx with ⟨hx, _⟩ | ⟨hx, hv⟩
 ·exact h3 x hx
 ·exact ⟨k, i, X, hx, hk, hi, hv, hX⟩
end Go.Proofs.YtflkfleihlceeaaGreatDoor

import Derived.Test.YtflkfleihlceeaaGreatDoorD27
import Derived.Test.YtflkfleihlceeaaGreatDoorD24
import Derived.Deep.WholeRow
/-
 The live question of package match. Conditions: the world holds what strings.Index asks, and the table of de Bruijn's numbers.
-/
namespace Go.Proofs.YtflkfleihlceeaaGreatDoor
open Go.RowKit Go.Deep Go.Sort
theorem wpList_mat_store {ops : Array Oper} {rest : List Oper} {o : Oper} {a : Act} {w : World} {Q : Exit -> Act -> World -> Prop} (hgd : o.guard = none) (x y : Operand) (ho : o.op = .store 34 x y) (sp : Sp) (hx : a.eval x = .pointer (some ⟨w.heap.size, 0, none⟩)) (hy : a.eval y = .agg (spC sp))
  (h : wpList Tryz.prog ops Q rest (a.put o.dst undef) (w.alloc (.cells (spC sp) 34))) : wpList Tryz.prog ops Q (o :: rest) a (w.alloc (.cells #[.int .i64 0, .int .i64 0, .int .i64 0, .int .i64 0, .int .i64 0, .int .i64 0, .int .i64 0, .int .i64 0, .int .i64 0, .int .i64 0, .int .i64 0, .int .i64 0, .int .i64 0, .int .i64 0, .int .i64 0, .int .i64 0, .int .i64 0, .int .i64 0, .int .i64 0, .int .i64 0] 34)) := by
 refine wpList_store_row hgd 34 x y ho w.heap.size (spC sp) hx hy 34 _ (heap_alloc_new w _) (by kernel_rfl) rfl (spC_one sp) ?_;rw [World.setRow_alloc_new];exact h
def litN (c : Nat) : PN := .mk 1 (withS noS c c) 0 0 0 []
def repN (lo hi : Int) (t : PN) : PN := .mk 4 noS lo hi 0 [t]
open Go.RowKit
theorem nod_join {k : Int} (hk : k = 2 \/ k = 3) (l : List PN) : nodT (joinK k l) <= 1 + nodL l := by
 match l with
 | [] => simp [joinK, nodT, hk, nodL]
 | [x] => simp [joinK, nodL]
 | x :: y :: r => simp [joinK, nodT, hk]
theorem nod_rep (n : PN) (l : List Tok) : nodT (repP n l).1 + 4 * (repP n l).2.length <= nodT n + 4 * l.length := by
 cases l with
 | nil => exact nlr _
 | cons t r =>
  simp only [repP];split
  ·simp only [nodT, nodH, List.length_cons];simp;omega
  ·exact nlr _
theorem headK_ne {l : List Tok} {k : Int} (h : headK l = k) (hk : k ≠ 0) : (l.drop 1).length + 1 = l.length := by
 cases l with
 | nil => exact absurd h.symm hk
 | cons t r => simp
theorem nod_parse : ∀ f : Nat, (∀ acc l g n l1 g1, altP f acc l g = some (n, l1, g1) -> nodT n + 4 * l1.length <= nodL acc + 4 * l.length + 2) /\ (∀ acc l g n l1 g1, rowP f acc l g = some (n, l1, g1) -> nodT n + 4 * l1.length <= nodL acc + 4 * l.length + 1) /\ (∀ l g n l1 g1, pieceP f l g = some (n, l1, g1) -> nodT n + 4 * l1.length <= 4 * l.length) /\ (∀ l g n l1 g1, groupP f l g = some (n, l1, g1) -> nodT n + 4 * l1.length <= 4 * l.length)
 | 0 => ⟨fun acc l g n l1 g1 h => by simp [altP] at h, fun acc l g n l1 g1 h => by simp [rowP] at h, fun l g n l1 g1 h => by simp [pieceP] at h, fun l g n l1 g1 h => by simp [groupP] at h⟩
 | f + 1 => by
  obtain ⟨ia, ir, ip, ig⟩ := nod_parse f;refine ⟨fun acc l g n l1 g1 h => ?_, fun acc l g n l1 g1 h => ?_, fun l g n l1 g1 h => ?_, fun l g n l1 g1 h => ?_⟩
  ·simp only [altP] at h;cases hr : rowP f [] l g with
   | none => rw [hr] at h; cases h
   | some x =>
    obtain ⟨m, l2, g2⟩ := x;rw [hr] at h;have h2 := ir _ _ _ _ _ _ hr;have h0 : nodL ([] : List PN) = 0 := (by simp [nodL]);simp only at h;split at h
    ·rename_i h6;have h3 := ia _ _ _ _ _ _ h;have h4 := headK_ne h6 (by decide);rw [nodL_append] at h3;have h5 : nodL [m] = nodT m := (by simp [nodL]);omega
    ·cases h
     have h3 := nod_join (.inr rfl : (3 : Int) = 2 \/ (3 : Int) = 3) (acc ++ [m]);rw [nodL_append] at h3;have h5 : nodL [m] = nodT m := (by simp [nodL]);omega
  ·simp only [rowP] at h;cases hr : pieceP f l g with
   | none => rw [hr] at h; cases h
   | some x =>
    obtain ⟨m, l2, g2⟩ := x;rw [hr] at h;have h2 := ip _ _ _ _ _ hr;simp only at h;split at h
    ·have h3 := ir _ _ _ _ _ _ h;rw [nodL_append] at h3;have h5 : nodL [m] = nodT m := (by simp [nodL]);omega
    ·cases h
     have h3 := nod_join (.inl rfl : (2 : Int) = 2 \/ (2 : Int) = 3) (acc ++ [m]);rw [nodL_append] at h3;have h5 : nodL [m] = nodT m := (by simp [nodL]);omega
  ·cases l with
   | nil => simp [pieceP] at h
   | cons t r =>
    simp only [pieceP] at h;split at h
    ·cases h; simp [nodT]; omega
    ·split at h
     ·cases h; simp [nodT]; omega
     ·split at h
      ·cases h
       have := nod_rep (.mk 1 t.set 0 0 0 []) r;have h1 : nodT (.mk 1 t.set 0 0 0 []) = 1 := (by simp [nodT]);simp only [List.length_cons]; omega
      ·split at h
       ·cases hr : groupP f r g with
        | none => rw [hr] at h; cases h
        | some x =>
         obtain ⟨m, l2, g2⟩ := x;rw [hr] at h;have h2 := ig _ _ _ _ _ hr;cases h
         have := nod_rep m l2;simp only [List.length_cons]; omega
       ·cases h
  ·simp only [groupP] at h;cases hr : altP f [] l (g + 1) with
   | none => rw [hr] at h; cases h
   | some x =>
    obtain ⟨m, l2, g2⟩ := x;rw [hr] at h;have h2 := ia _ _ _ _ _ _ hr;have h0 : nodL ([] : List PN) = 0 := (by simp [nodL]);simp only at h;split at h
    ·cases h
    ·rename_i h5;cases h
     have h4 := headK_ne (Decidable.byContradiction fun e => h5 (.inr e) : headK l2 = 5) (by decide);simp only [nodT, nodH];simp;omega
theorem parse_nods {bk : BkF} {ext : Bool} {l : List UInt8} {t : PN} (h : parseP bk ext l = some t) : nodT t <= 802 := by
 unfold parseP at h;split at h
 ·cases h
 ·cases ht : toksF bk ext 200 4 l with
  | none => rw [ht] at h; cases h
  | some ts =>
   rw [ht] at h;simp only at h;have hl := toksF_len _ _ _ _ ht;cases ha : altP 1001 [] ts 0 with
   | none => rw [ha] at h; cases h
   | some x =>
    obtain ⟨n, r, g⟩ := x;rw [ha] at h;simp only at h;have h2 := (nod_parse 1001).1 _ _ _ _ _ _ ha;have h0 : nodL ([] : List PN) = 0 := (by simp [nodL]);split at h
    ·cases h; omega
    ·cases h
open Go.RowKit
theorem top_le (f : Nat -> Bool) : ∀ n, top f n <= n
 | 0 => by rw [top]; exact nlr _
 | n + 1 => by
  rw [top];split
  ·exact nlr _
  ·have := top_le f n; omega
def EvOk (i j : Nat) (e : Ev) : Prop := 1 <= e.1 /\ e.1 <= 9 /\ i <= e.2.1 /\ e.2.1 <= e.2.2 /\ e.2.2 <= j
theorem EvOk.mono {i j i' j' : Nat} {e : Ev} (h : EvOk i j e) (hi : i' <= i) (hj : j <= j') : EvOk i' j' e := ⟨h.1, h.2.1, by have := h.2.2.1; omega, h.2.2.2.1, by have := h.2.2.2.2; omega⟩
def EvIn (f : EvF) : Prop := ∀ i j, i <= j -> ∀ e ∈ f i j, EvOk i j e
theorem EvIn.row {rs : List Rel} : ∀ {es : List EvF}, (∀ e ∈ es, EvIn e) -> EvIn (rowE rs es) := by
 induction rs with
 | nil => intro es _ i j _ e he; cases es <;> simp [rowE] at he
 | cons r rs ih =>
  intro es h i j hij e he;cases es with
  | nil => simp [rowE] at he
  | cons f es =>
   simp only [rowE] at he;have ht := top_le (fun d => r i (i + d) && rowB rs (i + d) j) (j - i);rcases List.mem_append.1 he with he | he
   ·exact (h f (List.mem_cons_self ..) _ _ (by omega) e he).mono (nlr _) (by omega)
   ·exact (ih (fun f hf => h f (List.mem_cons_of_mem _ hf)) _ _ (by omega) e he).mono (by omega) (nlr _)
theorem EvIn.alt {rs : List Rel} : ∀ {es : List EvF}, (∀ e ∈ es, EvIn e) -> EvIn (altE rs es) := by
 induction rs with
 | nil => intro es _ i j _ e he; cases es <;> simp [altE] at he
 | cons r rs ih =>
  intro es h i j hij e he;cases es with
  | nil => simp [altE] at he
  | cons f es =>
   simp only [altE] at he;split at he
   ·exact h f (List.mem_cons_self ..) i j hij e he
   ·exact ih (fun f hf => h f (List.mem_cons_of_mem _ hf)) i j hij e he
theorem EvIn.rep {K : Rel} {f : EvF} (h : EvIn f) : ∀ (n : Nat) (lo hi : Int), EvIn (repE K f n lo hi)
 | 0, lo, hi => fun i j hij e he => by
  rw [repE] at he;split at he
  ·exact (h i i (nlr _) e he).mono (nlr _) hij
  ·cases he
 | n + 1, lo, hi => fun i j hij e he => by
  rw [repE] at he;split at he
  ·split at he
   ·exact (h i i (nlr _) e he).mono (nlr _) hij
   ·cases he
  ·have ht := top_le (fun d => decide (0 < d) && K i (i + d) && repB K (lo - 1) (decH hi) (i + d) j) (j - i);rcases List.mem_append.1 he with he | he
   ·exact (h _ _ (by omega) e he).mono (nlr _) (by omega)
   ·exact (EvIn.rep h n _ _ _ _ (by omega) e he).mono (by omega) (nlr _)
theorem EvIn.head {es : List EvF} (h : ∀ e ∈ es, EvIn e) : EvIn (headE es) := by
 cases es with
 | nil => intro i j _ e he; cases he
 | cons f es => exact h f (List.mem_cons_self ..)
theorem EvIn.node {k lo hi num : Int} {rs : List Rel} {es : List EvF} (h : ∀ e ∈ es, EvIn e) : EvIn (evK k lo hi num rs es) := fun i j hij e he => by
 unfold evK at he;split at he
 ·exact EvIn.row h i j hij e he
 split at he
 ·exact EvIn.alt h i j hij e he
 split at he
 ·exact EvIn.rep (EvIn.head h) _ _ _ i j hij e he
 split at he
 ·rcases List.mem_append.1 he with he | he
  ·split at he
   ·rename_i h1;have : e = (num.toNat, i, j) := (by simpa using he);subst this;exact ⟨by show 1 <= num.toNat; omega, by show num.toNat <= 9; omega, nlr _, hij, nlr _⟩
   ·cases he
  ·exact EvIn.head h i j hij e he
 ·cases he
mutual
theorem ev_in (T : List UInt8) (b : Bool) : ∀ t : PN, EvIn (evT T b t)
 | .mk k S lo hi num ks => by
  rw [evT];exact EvIn.node (ev_inL T b ks)
theorem ev_inL (T : List UInt8) (b : Bool) : ∀ ks : List PN, ∀ e ∈ evL T b ks, EvIn e
 | [], e, he => by simp [evL] at he
 | t :: ts, e, he => by
  rw [evL, List.mem_cons] at he;rcases he with rfl | he
  ·exact ev_in T b t
  ·exact ev_inL T b ts e he
end
theorem putE_other {k : Nat} : ∀ {es : List Ev} {sp : Sp}, (∀ e ∈ es, e.1 ≠ k) -> putE sp es k = sp k
 | [], sp, _ => rfl
 | e :: es, sp, h => by
  show putE (setE sp e) es k = sp k;rw [putE_other fun f hf => h f (List.mem_cons_of_mem _ hf)];unfold setE;rw [if_neg fun e2 => h e (List.mem_cons_self ..) e2.symm]
theorem spM_zero {T : List UInt8} {b : Bool} {t : PN} {i z : Nat} (h : i <= z) : spM (evT T b t) i z 0 = ((i : Int), (z : Int)) := by
 unfold spM;rw [putE_other fun e he e0 => by have := (ev_in T b t i z h e he).1; omega];unfold putS;rw [if_pos rfl]
theorem FindR.zero {T : List UInt8} {b : Bool} {t : PN} {fr : Int} {ok : Bool} {sp : Sp} (h : FindR T b t fr ok sp) : sp 0 = (0, 0) \/ (ok = true) := by
 rcases h with ⟨_, rfl, _⟩ | ⟨h, _⟩
 ·exact .inl rfl
 ·exact .inr h
theorem FindR.span {T : List UInt8} {b : Bool} {t : PN} {fr : Nat} {ok : Bool} {sp : Sp} (h : FindR T b t (fr : Int) ok sp) (hfr : fr <= T.length) (hT : T.length <= 1024) :
  (ok = false /\ sp = spI 0 /\ ∀ i j : Nat, fr <= i -> i <= T.length -> semT T b t i j = false) ∨
  (ok = true /\ ∃ i z : Nat, sp 0 = ((i : Int), (z : Int)) /\ fr <= i /\ i <= z /\ z <= T.length /\ semT T b t i z = true /\ (∀ k j : Nat, fr <= k -> k < i -> semT T b t k j = false) /\ (∀ j : Nat, z < j -> semT T b t i j = false) /\ sp = spM (evT T b t) i z) := by
 rcases h with ⟨h1, h2, h3⟩ | ⟨h1, _, _, i, z, h2, h3, h4, h5, h6, h7⟩
 ·left;refine ⟨h1, h2, fun i j hi hiN => ?_⟩;rcases h3 with h3 | h3 | h3 | h3
  ·omega
  ·omega
  ·omega
  ·exact h3 i j (by omega) hiN
 ·right;have hiz : i <= z := ((fit_T T b t) i z h4).1;exact ⟨h1, i, z, by rw [h7]; exact spM_zero hiz, by omega, hiz, h3, h4, fun k j hk hki => h5 k j (by omega) hki, h6, h7⟩
end Go.Proofs.YtflkfleihlceeaaGreatDoor

/-
  Texts and their lines, as plain lists of bytes. No condition.
  Bytes, blocks of 32 bytes and calls as values of the model; a map whose elements are blocks, told by a function of its keys; worlds of which a known set of blocks has turned. Conditions: the map's key type is int, its element type a block.
-/
import Derived.Test.YtcjbhjbjkfgphaaRows
import Derived.WalkKit
import Derived.ProofKit
import Derived.Maps.OwnSet
import Derived.Maps.Ext
import Derived.Maps.RangeWalk
import Derived.Deep.MidRow
import Derived.Deep.AppendLies
import Derived.Lib.Hide
import Derived.Deep.Draws
namespace Go.Proofs.Ytcjbhjbjkfgphaa

/-- A text, as a string's value. -/
def txt (l : List UInt8) : ByteArray := ⟨l.toArray⟩
theorem size_txt (l : List UInt8) : (txt l).size = l.length := by simp [txt, ByteArray.size]
theorem txt_of (s : ByteArray) : txt s.data.toList = s := by cases s; simp [txt]
theorem txt_inj {a b : List UInt8} (h : txt a = txt b) : a = b := by
  have := congrArg (fun s : ByteArray => s.data.toList) h
  simpa [txt] using this
theorem txt_append (a b : List UInt8) : txt a ++ txt b = txt (a ++ b) := by
  have : (txt a ++ txt b).data = (txt (a ++ b)).data := by simp [txt, ByteArray.data_append]
  cases h : txt a ++ txt b
  rw [h] at this
  simp only at this
  rw [this]
theorem txt_extract (l : List UInt8) (i j : Nat) : (txt l).extract i j = txt ((l.take j).drop i) := by
  have : ((txt l).extract i j).data = (txt ((l.take j).drop i)).data := by
    simp [txt, ByteArray.data_extract, List.drop_take]
  cases h : (txt l).extract i j
  rw [h] at this
  simp only at this
  rw [this]

/-- A text's lines, each with its line feed. -/
def lns : List UInt8 → List (List UInt8)
  | [] => []
  | c :: r => if c = 10 then [10] :: lns r else match lns r with
    | [] => [[c]]
    | x :: xs => (c :: x) :: xs
theorem lns_feed (r : List UInt8) : lns (10 :: r) = [10] :: lns r := by simp [lns]
theorem lns_line : ∀ (a r : List UInt8), (∀ c ∈ a, c ≠ 10) → lns (a ++ 10 :: r) = (a ++ [10]) :: lns r
  | [], r, _ => lns_feed r
  | c :: a, r, h => by
    have ih := lns_line a r (fun x hx => h x (by simp [hx]))
    have hc : c ≠ 10 := h c (by simp)
    show (if c = 10 then _ else _) = _
    rw [if_neg hc, List.append_eq, ih]
    rfl
theorem lns_plain : ∀ (a : List UInt8), (∀ c ∈ a, c ≠ 10) → lns a = if a = [] then [] else [a]
  | [], _ => rfl
  | c :: a, h => by
    have ih := lns_plain a (fun x hx => h x (by simp [hx]))
    have hc : c ≠ 10 := h c (by simp)
    show (if c = 10 then _ else _) = _
    rw [if_neg hc]
    by_cases ha : a = []
    · subst ha
      rfl
    · rw [if_neg ha] at ih
      rw [ih]
      simp
theorem lns_flatten : ∀ s : List UInt8, (lns s).flatten = s
  | [] => rfl
  | c :: r => by
    have ih := lns_flatten r
    show (if c = 10 then _ else _ : List (List UInt8)).flatten = _
    split
    · rename_i h
      rw [List.flatten_cons, ih, h]
      rfl
    · split
      · rename_i h
        rw [h] at ih
        simp at ih
        rw [ih]
        rfl
      · rename_i x xs h
        rw [h, List.flatten_cons] at ih
        rw [List.flatten_cons, ← ih]
        rfl
/-- Each text begins with a line, or has none. -/
theorem lns_cases (s : List UInt8) : (∀ c ∈ s, c ≠ 10) ∨ ∃ a r, s = a ++ 10 :: r ∧ ∀ c ∈ a, c ≠ 10 := by
  induction s with
  | nil => exact .inl (fun c h => by cases h)
  | cons c s ih =>
    by_cases hc : c = 10
    · exact .inr ⟨[], s, by rw [hc]; rfl, fun c h => by cases h⟩
    · rcases ih with h | ⟨a, r, e, h⟩
      · exact .inl (fun x hx => by
          rcases List.mem_cons.1 hx with hx | hx
          · rw [hx]; exact hc
          · exact h x hx)
      · exact .inr ⟨c :: a, r, by rw [e]; rfl, fun x hx => by
          rcases List.mem_cons.1 hx with hx | hx
          · rw [hx]; exact hc
          · exact h x hx⟩
/-- How many line feeds. -/
def feeds (s : List UInt8) : Nat := s.count 10
theorem feeds_append (a b : List UInt8) : feeds (a ++ b) = feeds a + feeds b := by simp [feeds]
theorem feeds_none {a : List UInt8} (h : ∀ c ∈ a, c ≠ 10) : feeds a = 0 := by
  unfold feeds
  rw [List.count_eq_zero]
  exact fun hm => h 10 hm rfl
theorem feeds_cons10 (r : List UInt8) : feeds (10 :: r) = feeds r + 1 := by simp [feeds]
/-- Is there something behind the last line feed? -/
def rest (s : List UInt8) : Nat := match s.getLast? with
  | none => 0
  | some c => if c = 10 then 0 else 1
theorem rest_append {a b : List UInt8} (h : b ≠ []) : rest (a ++ b) = rest b := by
  unfold rest
  rw [List.getLast?_append]
  cases hb : b.getLast? with
  | none => exact absurd (List.getLast?_eq_none_iff.1 hb) h
  | some x => rfl
theorem rest_nil : rest [] = 0 := rfl
theorem length_lns (s : List UInt8) : (lns s).length = feeds s + rest s := by
  generalize hn : s.length = n
  induction n using Nat.strongRecOn generalizing s with
  | ind n ih =>
    rcases lns_cases s with h | ⟨a, r, rfl, h⟩
    · rw [lns_plain s h, feeds_none h]
      by_cases hs : s = []
      · rw [if_pos hs, hs]; rfl
      · rw [if_neg hs]
        unfold rest
        rw [List.getLast?_eq_some_getLast hs]
        simp only
        rw [if_neg (h _ (List.getLast_mem hs))]
        rfl
    · rw [lns_line a r h, List.length_cons, feeds_append, feeds_none h, feeds_cons10, ih r.length (by rw [← hn]; simp; omega) r rfl]
      by_cases hr : r = []
      · subst hr
        rw [show a ++ [10] = a ++ [10] from rfl, rest_append (by simp)]
        rfl
      · rw [show a ++ 10 :: r = (a ++ [10]) ++ r by simp, rest_append hr]
        omega
end Go.Proofs.Ytcjbhjbjkfgphaa

namespace Go.Proofs.Ytcjbhjbjkfgphaa
open Go.RowKit Go.Maps

/-! ### bytes -/
def byteV (b : UInt8) : Value := .int .u8 (b.toNat : Int)
def bytesV (l : List UInt8) : List Value := l.map byteV
def blk (l : List UInt8) : Value := .agg (bytesV l).toArray
def zero32 : List UInt8 := List.replicate 32 0

theorem length_bytesV (l : List UInt8) : (bytesV l).length = l.length := by simp [bytesV]
theorem bytesV_nil : bytesV [] = [] := rfl
theorem bytesV_append (a b : List UInt8) : bytesV (a ++ b) = bytesV a ++ bytesV b := by simp [bytesV]
theorem bytesV_take (n : Nat) (a : List UInt8) : (bytesV a).take n = bytesV (a.take n) := by simp [bytesV, List.map_take]
theorem bytesV_drop (n : Nat) (a : List UInt8) : (bytesV a).drop n = bytesV (a.drop n) := by simp [bytesV, List.map_drop]
theorem oneCell_bytesV {l : List UInt8} : ∀ v ∈ bytesV l, v.oneCell' = true := by
  intro v hv
  obtain ⟨b, _, rfl⟩ := List.mem_map.1 hv
  rfl
theorem length_zero32 : zero32.length = 32 := rfl

/-! ### worlds of which a set of blocks has turned -/
structure Turned (S : Nat → Prop) (w w' : World) : Prop where
  os : w'.os = w.os
  tape : w'.tape = w.tape
  output : w'.output = w.output
  size : w.heap.size ≤ w'.heap.size
  block : ∀ k, k < w.heap.size → ¬ S k → w'.heap[k]? = w.heap[k]?

theorem Turned.refl (S : Nat → Prop) (w : World) : Turned S w w := ⟨rfl, rfl, rfl, Nat.le_refl _, fun _ _ _ => rfl⟩
theorem Turned.trans {S T : Nat → Prop} {a b c : World} (h : Turned S a b) (k : Turned T b c) (hT : ∀ i, i < a.heap.size → T i → S i) : Turned S a c :=
  ⟨k.os.trans h.os, k.tape.trans h.tape, k.output.trans h.output, Nat.le_trans h.size k.size, fun i hi hn => (k.block i (Nat.lt_of_lt_of_le hi h.size) (fun ht => hn (hT i hi ht))).trans (h.block i hi hn)⟩
theorem Turned.of_below {S : Nat → Prop} {a b : World} (h : Below a.heap.size a b) : Turned S a b := ⟨h.os, h.tape, h.output, h.size, fun i hi _ => h.block i hi⟩
theorem Turned.of_grown {S : Nat → Prop} {a b : World} {row : Option Nat} (h : a.grownBy b row) (hr : ∀ k, row = some k → S k) : Turned S a b :=
  ⟨h.os, h.tape, h.output, h.size, fun i hi hn => h.block i hi (fun e => hn (hr i e.symm))⟩
theorem Turned.drewN {S : Nat → Prop} {a b : World} (h : Turned S a b) (n : Nat) : Turned S a (b.drewN n) := ⟨h.os, h.tape, h.output, h.size, h.block⟩
theorem Turned.below {S : Nat → Prop} {a b : World} {B : Nat} (h : Turned S a b) (hB : B ≤ a.heap.size) (hS : ∀ k, S k → B ≤ k) : Below B a b :=
  ⟨h.os, h.tape, h.output, h.size, fun i hi => h.block i (by omega) (fun hs => by have := hS i hs; omega)⟩
theorem Turned.cell {S : Nat → Prop} {a b : World} (h : Turned S a b) {p : Addr} {v : Value} (hc : a.cell? p = some v) (hn : ¬ S p.block) : b.cell? p = some v :=
  (World.cell?_of_block (h.block p.block (World.block_lt_of_cell? a p hc) hn)).trans hc
theorem lt_of_some {w : World} {b : Nat} {o : Obj} (h : w.heap[b]? = some o) : b < w.heap.size := (Array.getElem?_eq_some_iff.1 h).1
theorem Turned.obj {S : Nat → Prop} {a b : World} (h : Turned S a b) {k : Nat} {o : Obj} (hk : a.heap[k]? = some o) (hn : ¬ S k) : b.heap[k]? = some o :=
  (h.block k (lt_of_some hk) hn).trans hk
theorem Below.obj {a b : World} {B : Nat} (h : Below B a b) {k : Nat} {o : Obj} (hk : a.heap[k]? = some o) (hn : k < B) : b.heap[k]? = some o := (h.block k hn).trans hk

/-- The row that a slice value owns stays while its block is none of those that turned. -/
theorem ownsRow_turned {w w' : World} {S : Nat → Prop} {base : Nat} {e : TypeId} {size : Nat} {v : Value} {n : Nat} {xs : List Value} (h : w.ownsRow base e size v n xs) (ht : Turned S w w') (hn : ∀ k, v.ownBlock = some k → ¬ S k) : w'.ownsRow base e size v n xs := by
  refine ⟨h.1, ?_⟩
  rcases h.2 with h0 | ⟨g, cap, cur, rfl, hb, hgg, rest⟩
  · exact .inl h0
  · exact .inr ⟨g, cap, cur, rfl, hb, ht.obj hgg (hn g rfl), rest⟩

/-! ### a map of blocks -/
def heldElem (v : Value) : Option (DataW Value × List MemPlace) := some (.held v, [])
def upd (f : Int → Option (List UInt8)) (x : Int) (l : List UInt8) : Int → Option (List UInt8) := fun y => if y = x then some l else f y
theorem upd_same (f : Int → Option (List UInt8)) (x : Int) (l : List UInt8) : upd f x l x = some l := if_pos rfl
theorem upd_other (f : Int → Option (List UInt8)) (x : Int) (l : List UInt8) {y : Int} (h : y ≠ x) : upd f x l y = f y := if_neg h

/-- Block b is a map of at most n entries: at key x it holds the block f x, if any. -/
def MapIs (P : Program) (k : TypeId) (w : World) (b n : Nat) (f : Int → Option (List UInt8)) : Prop :=
  ∃ D : DataW Value, w.ownsMap P k heldElem b n D ∧ Maps.IsMap D ∧ ∀ x : Int, (Lit.int .i64 x).wf = true → Maps.has D (.int .i64 x) = (f x).isSome ∧ ∀ l, f x = some l → ∀ z, D.atKey (.int .i64 x) z = .held (blk l)

section
variable {P : Program} {k t e : TypeId} {w : World} {b n : Nat} {f : Int → Option (List UInt8)}

theorem MapIs.lt (h : MapIs P k w b n f) : b < w.heap.size := by
  obtain ⟨D, h1, _⟩ := h
  exact h1.lt
theorem MapIs.obj (h : MapIs P k w b n f) : ∃ es c, w.heap[b]? = some (.map es c) := by
  obtain ⟨D, ⟨es, c, hb, _⟩, _⟩ := h
  exact ⟨es, c, hb⟩
theorem MapIs.mono (h : MapIs P k w b n f) {n' : Nat} (hn : n ≤ n') : MapIs P k w b n' f := by
  obtain ⟨D, h1, h2⟩ := h
  exact ⟨D, h1.mono hn, h2⟩
theorem MapIs.same {w' : World} (h : MapIs P k w b n f) (hb : w'.heap[b]? = w.heap[b]?) : MapIs P k w' b n f := by
  obtain ⟨D, ⟨es, c, h1, h2⟩, h3⟩ := h
  exact ⟨D, ⟨es, c, hb.trans h1, h2⟩, h3⟩
theorem MapIs.turned {w' : World} {S : Nat → Prop} (h : MapIs P k w b n f) (ht : Turned S w w') (hn : ¬ S b) : MapIs P k w' b n f := h.same (ht.block b h.lt hn)
theorem MapIs.ne_cells (h : MapIs P k w b n f) {g : Nat} {cs : Array Value} {t : TypeId} {fr : Nat × Nat} (hg : w.heap[g]? = some (.cells cs t fr)) : g ≠ b := by
  rintro rfl
  obtain ⟨es, c, hb⟩ := h.obj
  rw [hb] at hg
  cases hg

theorem MapIs.made (w : World) (hk : P.underlying k = some (.int .i64)) : MapIs P k (w.alloc (.map #[] 0)) w.heap.size 0 (fun _ => none) := by
  have _ := hk
  exact ⟨.map [], World.ownsMap_made w P k heldElem, ⟨[], rfl⟩, fun x _ => ⟨rfl, fun l hl => by cases hl⟩⟩

theorem MapIs.look (h : MapIs P k w b n f) (hk : P.underlying k = some (.int .i64)) (ht : P.underlying t = some (.map k e)) (hz : ∀ w, (zeroValue e).run P w = .ok (blk zero32) w) {x : Int} (hx : (Lit.int .i64 x).wf = true) :
    (Instr.lookup t (.map (some b)) (.int .i64 x) false).run P w = .ok (blk ((f x).getD zero32)) w := by
  obtain ⟨D, h1, h2, h3⟩ := h
  obtain ⟨hh, ha⟩ := h3 x hx
  obtain ⟨v, ps, hrun, hv⟩ := h1.lookup (t := t) (e := e) (int_keyed hk) ht (hz w) (zd := .held (blk zero32)) (zp := []) rfl (keyOf_int_mk hk hx)
  rw [hrun]
  simp only [heldElem, Option.some.injEq, Prod.mk.injEq] at hv
  cases hf : f x with
  | none =>
    rw [hf] at hh
    rw [atKey_of_not_has hh] at hv
    obtain ⟨he, _⟩ := hv
    injection he with he
    rw [he]; rfl
  | some l =>
    rw [ha l hf] at hv
    obtain ⟨he, _⟩ := hv
    injection he with he
    rw [he]; rfl

theorem MapIs.look_ok (h : MapIs P k w b n f) (hk : P.underlying k = some (.int .i64)) (ht : P.underlying t = some (.map k e)) (hz : ∀ w, (zeroValue e).run P w = .ok (blk zero32) w) {x : Int} (hx : (Lit.int .i64 x).wf = true) :
    (Instr.lookup t (.map (some b)) (.int .i64 x) true).run P w = .ok (.tuple #[blk ((f x).getD zero32), .bool (f x).isSome]) w := by
  obtain ⟨D, h1, h2, h3⟩ := h
  obtain ⟨hh, ha⟩ := h3 x hx
  obtain ⟨v, ps, hrun, hv⟩ := h1.look_ok (t := t) (e := e) (int_keyed hk) ht (hz w) (zd := .held (blk zero32)) (zp := []) rfl (keyOf_int_mk hk hx)
  rw [hrun, hh]
  simp only [heldElem, Option.some.injEq, Prod.mk.injEq] at hv
  cases hf : f x with
  | none =>
    rw [hf] at hh
    rw [atKey_of_not_has hh] at hv
    obtain ⟨he, _⟩ := hv
    injection he with he
    rw [he]; rfl
  | some l =>
    rw [ha l hf] at hv
    obtain ⟨he, _⟩ := hv
    injection he with he
    rw [he]; rfl

theorem MapIs.store (h : MapIs P k w b n f) (hk : P.underlying k = some (.int .i64)) (ht : P.underlying t = some (.map k e)) (hn : n < maxLen) {x : Int} (hx : (Lit.int .i64 x).wf = true) (l : List UInt8) :
    ∃ w', (Instr.mapUpdate t (.map (some b)) (.int .i64 x) (blk l)).run P w = .ok () w' ∧ MapIs P k w' b (n + 1) (upd f x l) ∧ w.grownBy w' (some b) := by
  obtain ⟨D, h1, h2, h3⟩ := h
  obtain ⟨w', hrun, hown, hg⟩ := h1.update (t := t) (e := e) (int_keyed hk) ht hn (keyOf_int_mk hk hx) (val := blk l) (d := .held (blk l)) (ps := []) rfl
  refine ⟨w', hrun, ⟨_, hown, h2.put _ _, fun y hy => ?_⟩, hg⟩
  have key : WideAt.IsKeyLit (.int .i64 x) := (int_keyed hk).key (keyOf_int_mk hk hx)
  by_cases e : y = x
  · subst e
    rw [has_put_same h2 key, upd_same]
    refine ⟨rfl, fun l' hl' z => ?_⟩
    injection hl' with hl'
    subst hl'
    exact atKey_put_same h2 key _ _
  · have hne : (Lit.int .i64 y) ≠ (Lit.int .i64 x) := fun e1 => e (by injection e1)
    obtain ⟨a1, a2⟩ := h3 y hy
    rw [has_put_other hne, upd_other _ _ _ e, a1]
    refine ⟨rfl, fun l' hl' z => ?_⟩
    rw [atKey_put_other hne, a2 l' hl' z]

/-- 'm[k] = v' at the operation, for the walk. -/
theorem wpList_mapUpdate_is {ops : Array Oper} {rest : List Oper} {o : Oper} {a : Act} {Q : Exit → Act → World → Prop}
    (hg : o.guard = none) (m x v : Operand) (t : TypeId) (hop : o.op = Op.mapUpdate t m x v) (e : TypeId) (hk : P.underlying k = some (.int .i64)) (ht : P.underlying t = some (.map k e)) (b n : Nat) (f : Int → Option (List UInt8))
    (hm : a.eval m = .map (some b)) (h : MapIs P k w b n f) (hn : n < maxLen) (y : Int) (l : List UInt8) (hx : a.eval x = .int .i64 y) (hv : a.eval v = blk l) (hy : (Lit.int .i64 y).wf = true)
    (hK : ∀ w', MapIs P k w' b (n + 1) (upd f y l) → w.grownBy w' (some b) → wpList P ops Q rest (a.put o.dst undef) w') :
    wpList P ops Q (o :: rest) a w := by
  refine wpList_plain hg fun K' hK' => ?_
  obtain ⟨w', hrun, r1, r2⟩ := h.store hk ht hn hy l
  unfold Oper.wp
  simp [execOp, hop, hm, hx, hv, hrun, Result.andThen]
  exact hK' _ _ (hK w' r1 r2)

/-- .. as a step of a region that draws its order. -/
theorem step_mapUpdate_is {ops : Array Oper} {o : Oper} {a : Act} {K : Act → World → Prop} {Q : Exit → Act → World → Prop} {E : Prop}
    (hg : o.guard = none) (m x v : Operand) (t : TypeId) (hop : o.op = Op.mapUpdate t m x v) (e : TypeId) (hk : P.underlying k = some (.int .i64)) (ht : P.underlying t = some (.map k e)) (b n : Nat) (f : Int → Option (List UInt8))
    (hm : a.eval m = .map (some b)) (h : MapIs P k w b n f) (hn : n < maxLen) (y : Int) (l : List UInt8) (hx : a.eval x = .int .i64 y) (hv : a.eval v = blk l) (hy : (Lit.int .i64 y).wf = true)
    (hK : ∀ w', MapIs P k w' b (n + 1) (upd f y l) → w.grownBy w' (some b) → K (a.put o.dst undef) w') :
    if Region.wanted o (yielded ops a.tmps) = true then Oper.wp P o a w K Q else E := by
  have hw : Region.wanted o (yielded ops a.tmps) = true := by simp [Region.wanted, hg]
  rw [if_pos hw]
  obtain ⟨w', hrun, r1, r2⟩ := h.store hk ht hn hy l
  unfold Oper.wp
  simp [execOp, hop, hm, hx, hv, hrun, Result.andThen]
  exact hK w' r1 r2
end

/-! ### calls -/
structure CallM where
  sync : Bool
  n : Int
  bytes : List UInt8
def CallM.cells (c : CallM) : List Value := .bool c.sync :: .int .i64 c.n :: bytesV c.bytes
def callV (c : CallM) : Value := .agg c.cells.toArray
def callsV (cs : List CallM) : List Value := cs.flatMap CallM.cells
def CallM.ok (c : CallM) : Prop := c.bytes.length = 32 ∧ (Lit.int .i64 c.n).wf = true
def syncM : CallM := ⟨true, 0, zero32⟩

theorem CallM.length_cells {c : CallM} (h : c.ok) : c.cells.length = 34 := by simp [CallM.cells, length_bytesV, h.1]
theorem CallM.oneCell {c : CallM} : ∀ v ∈ c.cells, v.oneCell' = true := by
  intro v hv
  simp only [CallM.cells, List.mem_cons] at hv
  rcases hv with rfl | rfl | hv
  · rfl
  · rfl
  · exact oneCell_bytesV v hv
theorem callsV_append (a b : List CallM) : callsV (a ++ b) = callsV a ++ callsV b := by simp [callsV]
theorem callsV_one (c : CallM) : callsV [c] = c.cells := by simp [callsV]
theorem length_callsV : ∀ {cs : List CallM}, (∀ c ∈ cs, c.ok) → (callsV cs).length = cs.length * 34
  | [], _ => rfl
  | c :: r, h => by
    have := length_callsV (cs := r) (fun x hx => h x (by simp [hx]))
    have h1 := CallM.length_cells (h c (by simp))
    simp only [callsV, List.flatMap_cons, List.length_append, List.length_cons] at this ⊢
    omega
theorem callsV_at : ∀ {cs : List CallM}, (∀ c ∈ cs, c.ok) → ∀ (i : Nat) (c : CallM), cs[i]? = some c → ∀ (j : Nat) (v : Value), c.cells[j]? = some v → (callsV cs)[i * 34 + j]? = some v
  | [], _, i, c, h, _, _, _ => by simp at h
  | a :: r, h, 0, c, hc, j, v, hv => by
    simp at hc
    subst hc
    have hj : j < a.cells.length := (List.getElem?_eq_some_iff.1 hv).1
    simp only [callsV, List.flatMap_cons, Nat.zero_mul, Nat.zero_add]
    rw [List.getElem?_append_left hj]
    exact hv
  | a :: r, h, i + 1, c, hc, j, v, hv => by
    have h1 := CallM.length_cells (h a (by simp))
    have := callsV_at (cs := r) (fun x hx => h x (by simp [hx])) i c (by simpa using hc) j v hv
    simp only [callsV, List.flatMap_cons]
    rw [List.getElem?_append_right (by omega)]
    rw [h1, show (i + 1) * 34 + j - 34 = i * 34 + j by omega]
    exact this
end Go.Proofs.Ytcjbhjbjkfgphaa

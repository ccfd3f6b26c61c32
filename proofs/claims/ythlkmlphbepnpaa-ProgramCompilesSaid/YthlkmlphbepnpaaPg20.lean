/-
  The paths that commands write to, in a row of the call's own. Condition: fewer than a million commands.
-/
import Derived.Test.YthlkmlphbepnpaaPg11
namespace Go.Proofs.Ythlkmlphbepnpaa
open Go.RowKit Go.Deep

/-- The path that a command writes to. -/
def pathOf (c : CM) : Option (List UInt8) := if c.name = 119 then some c.text.data.toList else if c.name = 115 ∧ c.file ≠ ⟨#[]⟩ then some c.file.data.toList else none
def pathsF (cs : List CM) (m : Nat) : List (List UInt8) := (cs.take m).filterMap pathOf
theorem pathsF_succ {cs : List CM} {m : Nat} {c : CM} (h : cs[m]? = some c) : pathsF cs (m + 1) = pathsF cs m ++ (match pathOf c with | some p => [p] | none => []) := by
  unfold pathsF
  rw [List.take_add_one, h, List.filterMap_append]
  cases e : pathOf c <;> simp [e]
theorem pathsF_len (cs : List CM) (m : Nat) : (pathsF cs m).length ≤ m := by
  unfold pathsF
  have h1 := List.length_filterMap_le pathOf (cs.take m)
  have h2 := List.length_take_le m cs
  omega
def sV (l : List (List UInt8)) : List Value := l.map fun b => .string (txt b)
theorem sV_append (a b : List (List UInt8)) : sV (a ++ b) = sV a ++ sV b := by simp [sV]
theorem info_str : (Try.prog.info? 9).map (fun i => (i.zero, i.size, i.bytes)) = some (some (.string ⟨#[]⟩), 1, 16) := by kernel_rfl
theorem elem_str : ElemOf 34 9 1 16 := by
  obtain ⟨i, hi, hz, hs, hb⟩ := info_parts info_str
  exact ⟨Try.underlying34, ⟨i, _, hi, hz, hs, hb, rfl⟩, by omega, by omega⟩
/-- A row of texts of the call's own. -/
def OwnS (w : World) (B : Nat) (v : Value) (l : List (List UInt8)) : Prop := w.ownsRow B 9 1 v l.length (sV l)
theorem OwnS.nil (w : World) (B : Nat) : OwnS w B (.slice none 0 0) [] := ⟨rfl, .inl ⟨rfl, rfl⟩⟩
theorem OwnS.below {w W : World} {B : Nat} {v : Value} {l : List (List UInt8)} (h : OwnS w B v l) (hb : Below w.heap.size w W) : OwnS W B v l := ownsRow_turned h (Turned.of_below (S := fun _ => False) hb) (fun _ _ h => h)
/-- What holds where a round begins. -/
structure PaJ (cs : List CM) (w wr : World) (m : Nat) (v : Value) : Prop where
  le : m ≤ cs.length
  own : OwnS wr w.heap.size v (pathsF cs m)
  bel : Below w.heap.size w wr
theorem PaJ.skip {cs : List CM} {w wr W : World} {m : Nat} {v : Value} (h : PaJ cs w wr m v) (hb : Below wr.heap.size wr W) {c : CM} (hc : cs[m]? = some c) (hp : pathOf c = none) : PaJ cs w W (m + 1) v :=
  ⟨(List.getElem?_eq_some_iff.1 hc).1, by rw [pathsF_succ hc, hp, List.append_nil]; exact h.own.below hb, h.bel.trans (hb.mono h.bel.size)⟩
theorem PaJ.put {cs : List CM} {w wr W W' : World} {m : Nat} {v v' : Value} (h : PaJ cs w wr m v) (hb : Below wr.heap.size wr W) {c : CM} {p : List UInt8} (hc : cs[m]? = some c) (hp : pathOf c = some p) (ho : W'.ownsRow w.heap.size 9 1 v' ((pathsF cs m).length + 1) (sV (pathsF cs m) ++ [.string (txt p)])) (ht : Turned (fun j => v.ownBlock = some j) W W') : PaJ cs w W' (m + 1) v' := by
  refine ⟨(List.getElem?_eq_some_iff.1 hc).1, ?_, (h.bel.trans (hb.mono h.bel.size)).trans (ht.below (by have := h.bel.size; have := hb.size; omega) fun k hk => (World.ownsRow.lt h.own k hk).1)⟩
  rw [pathsF_succ hc, hp]
  unfold OwnS
  rw [List.length_append, sV_append]
  exact ho
end Go.Proofs.Ythlkmlphbepnpaa

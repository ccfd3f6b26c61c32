/-
 What replacing makes of a text, as data: the matches in order, and what is left between them. No condition.
-/
import Derived.Test.YtflkfleihlceeaaGreatDoorR11
namespace Go.Proofs.YtflkfleihlceeaaGreatDoor
open Go.RowKit Go.Deep Go.Shelf
def OrdL (T : List UInt8) : Nat -> List Sp -> Prop
 | k, [] => k <= T.length
 | k, sp :: r => ∃ i z : Nat, sp 0 = ((i : Int), (z : Int)) /\ k <= i /\ i <= z /\ z <= T.length /\ OrdL T z r
theorem OrdL.le {T : List UInt8} : ∀ {l : List Sp} {k : Nat}, OrdL T k l -> k <= T.length
 | [], _, h => h
 | _ :: _, _, h => by
  obtain ⟨i, z, _, h1, h2, h3, _⟩ := h;omega
theorem OrdL.less {T : List UInt8} : ∀ {l : List Sp} {k j : Nat}, OrdL T k l -> j <= k -> OrdL T j l
 | [], _, _, h, hj => Nat.le_trans hj h
 | _ :: _, _, _, h, hj => by
  obtain ⟨i, z, h0, h1, h2, h3, h4⟩ := h;exact ⟨i, z, h0, Nat.le_trans hj h1, h2, h3, h4⟩
theorem OrdL.drop {T : List UInt8} : ∀ {l : List Sp} {k : Nat} (m : Nat), OrdL T k l -> OrdL T k (l.drop m)
 | _, _, 0, h => h
 | [], _, _ + 1, h => h
 | _ :: _, _, m + 1, h => by
  obtain ⟨i, z, h0, h1, h2, h3, h4⟩ := h;exact (h4.less (by omega)).drop m
theorem OrdL.take {T : List UInt8} : ∀ {l : List Sp} {k : Nat} (m : Nat), OrdL T k l -> OrdL T k (l.take m)
 | _, _, 0, h => by rw [List.take_zero]; exact h.le
 | [], _, _ + 1, h => h
 | _ :: _, _, m + 1, h => by
  obtain ⟨i, z, h0, h1, h2, h3, h4⟩ := h;exact ⟨i, z, h0, h1, h2, h3, h4.take m⟩
theorem matL_ord {T : List UInt8} {t : PN} {fr en : Int} {l : List Sp} (h : MatL T t fr en l) : ∀ k : Nat, (k : Int) <= fr -> k <= T.length -> OrdL T k l := by
 induction h with
 | done _ => exact fun k _ h => h
 | hit f1 g1 _ ih =>
  intro k hk hl;obtain ⟨i, z, h0, h1, h2, h3, _⟩ := findR_in f1;exact ⟨i, z, h0, by omega, h2, h3, ih z (by rw [h0]; simp only; omega) h3⟩
 | skip f1 g1 _ ih =>
  intro k hk hl;obtain ⟨i, z, h0, h1, h2, h3, _⟩ := findR_in f1;exact ih k (by rw [h0]; simp only; omega) hl
def soF (T : List UInt8) (f : Sp -> List UInt8) : List UInt8 × Nat -> List Sp -> List UInt8 × Nat
 | p, [] => p
 | p, sp :: r => soF T f (p.1 ++ ((T.take (sp 0).1.toNat).drop p.2 ++ f sp), (sp 0).2.toNat) r
theorem soF_push (T : List UInt8) (f : Sp -> List UInt8) : ∀ (l : List Sp) (p : List UInt8 × Nat) (sp : Sp), soF T f p (l ++ [sp]) = ((soF T f p l).1 ++ ((T.take (sp 0).1.toNat).drop (soF T f p l).2 ++ f sp), (sp 0).2.toNat)
 | [], _, _ => rfl
 | _ :: r, _, sp => soF_push T f r _ sp
def repF (T : List UInt8) (f : Sp -> List UInt8) : Nat -> List Sp -> List UInt8
 | k, [] => T.drop k
 | k, sp :: r => (T.take (sp 0).1.toNat).drop k ++ (f sp ++ repF T f (sp 0).2.toNat r)
theorem soF_rep (T : List UInt8) (f : Sp -> List UInt8) : ∀ (l r : List Sp) (p : List UInt8 × Nat), (soF T f p l).1 ++ repF T f (soF T f p l).2 r = p.1 ++ repF T f p.2 (l ++ r)
 | [], _, _ => rfl
 | sp :: l, r, p => by
  show (soF T f (p.1 ++ ((T.take (sp 0).1.toNat).drop p.2 ++ f sp), (sp 0).2.toNat) l).1 ++ repF T f (soF T f (p.1 ++ ((T.take (sp 0).1.toNat).drop p.2 ++ f sp), (sp 0).2.toNat) l).2 r = _;rw [soF_rep T f l r];simp [repF, List.append_assoc]
theorem soF_ord {T : List UInt8} {f : Sp -> List UInt8} : ∀ {l r : List Sp} {p : List UInt8 × Nat}, OrdL T p.2 (l ++ r) -> OrdL T (soF T f p l).2 r
 | [], _, _, h => h
 | sp :: l, r, p, h => by
  obtain ⟨i, z, h0, h1, h2, h3, h4⟩ := h;have e : (sp 0).2.toNat = z := (by rw [h0]; simp);exact soF_ord (l := l) (r := r) (p := (p.1 ++ ((T.take (sp 0).1.toNat).drop p.2 ++ f sp), (sp 0).2.toNat)) (by simp only [e]; exact h4)
theorem rep_len {T : List UInt8} {f : Sp -> List UInt8} {K : Nat} : ∀ {l : List Sp} {k : Nat}, OrdL T k l -> (∀ sp ∈ l, (f sp).length <= K) -> (repF T f k l).length + k <= T.length + l.length * K
 | [], k, h, _ => by
  have := h.le;simp [repF];omega
 | sp :: r, k, h, hf => by
  obtain ⟨i, z, h0, h1, h2, h3, h4⟩ := h;have e1 : (sp 0).1.toNat = i := (by rw [h0]; simp);have e2 : (sp 0).2.toNat = z := (by rw [h0]; simp);have hr := rep_len h4 (fun x hx => hf x (List.mem_cons_of_mem _ hx));have hp := hf sp (List.mem_cons_self ..);unfold repF;rw [e1, e2];simp only [List.length_append, List.length_drop, List.length_take, List.length_cons, Nat.succ_mul];omega
def choP (c : Nat) (all : Bool) (xs : List Sp) : List Sp := if all then xs.drop (c - 1) else (xs.drop (c - 1)).take 1
theorem choP_ord {T : List UInt8} {k c : Nat} {all : Bool} {xs : List Sp} (h : OrdL T k xs) : OrdL T k (choP c all xs) := by
 unfold choP;split
 ·exact h.drop _
 ·exact (h.drop _).take _
end Go.Proofs.YtflkfleihlceeaaGreatDoor

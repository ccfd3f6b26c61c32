import Derived.Test.YtncbmdbfdjhkeaaK06
import Derived.Test.YtncbmdbfdjhkeaaK01
/-
  Patterns' trees and tokens in memory. No condition.
-/
namespace Go.Proofs.Ytncbmdbfdjhkeaa
open Go.RowKit Go.Deep
def nodeV (k : Int) (S : Nat → Nat) (lo hi num : Int) (A : Option Addr) (n c : Nat) : Value := .agg #[.int .i64 k, .int .u64 (S 0), .int .u64 (S 1), .int .u64 (S 2), .int .u64 (S 3), .int .i64 lo, .int .i64 hi, .int .i64 num, .slice A n c]
structure NV where
  kind : Int
  set : Nat → Nat
  lo : Int
  hi : Int
  num : Int
  A : Option Addr
  n : Nat
  c : Nat
def NV.v (x : NV) : Value := nodeV x.kind x.set x.lo x.hi x.num x.A x.n x.c
def NV.cells (x : NV) : List Value := [.int .i64 x.kind, .int .u64 (x.set 0), .int .u64 (x.set 1), .int .u64 (x.set 2), .int .u64 (x.set 3), .int .i64 x.lo, .int .i64 x.hi, .int .i64 x.num, .slice x.A x.n x.c]
def nsV (xs : List NV) : List Value := xs.flatMap NV.cells
theorem length_nsV : ∀ xs : List NV, (nsV xs).length = xs.length * 9
  | [] => rfl
  | f :: r => by
    have := length_nsV r
    simp only [nsV, List.flatMap_cons, List.length_append, List.length_cons] at this ⊢
    simp only [NV.cells, List.length_cons, List.length_nil]
    omega
theorem nsV_append (a b : List NV) : nsV (a ++ b) = nsV a ++ nsV b := by simp [nsV]
theorem nsV_at : ∀ {xs : List NV} (i : Nat) (x : NV), xs[i]? = some x → ∀ (j : Nat) (v : Value), x.cells[j]? = some v → (nsV xs)[i * 9 + j]? = some v
  | [], i, f, h, _, _, _ => by simp at h
  | a :: r, 0, f, h, j, v, hv => by
    simp at h
    subst h
    have hj : j < a.cells.length := (List.getElem?_eq_some_iff.1 hv).1
    simp only [nsV, List.flatMap_cons, Nat.zero_mul, Nat.zero_add]
    rw [List.getElem?_append_left hj]
    exact hv
  | a :: r, i + 1, f, h, j, v, hv => by
    have := nsV_at (xs := r) i f (by simpa using h) j v hv
    simp only [nsV, List.flatMap_cons]
    have h3 : a.cells.length = 9 := rfl
    rw [List.getElem?_append_right (by omega), h3, show (i + 1) * 9 + j - 9 = i * 9 + j by omega]
    exact this
theorem oneCell_nsV {xs : List NV} : ∀ v ∈ nsV xs, v.oneCell' = true := by
  intro v hv
  obtain ⟨f, _, hv⟩ := List.mem_flatMap.1 hv
  simp only [NV.cells, List.mem_cons, List.not_mem_nil, or_false] at hv
  rcases hv with rfl | rfl | rfl | rfl | rfl | rfl | rfl | rfl | rfl <;> rfl
def RawOff (S : Nat → Prop) (w : World) (A : Option Addr) (vs : List Value) : Prop := vs = [] ∨ ∃ g o, A = some ⟨g, o, none⟩ ∧ ¬ S g ∧ w.rangeAt g o vs
theorem RawOff.raw {S : Nat → Prop} {w : World} {A : Option Addr} {vs : List Value} (h : RawOff S w A vs) : RawAt w A vs := by
  rcases h with h | ⟨g, o, e, _, hr⟩
  · exact .inl h
  · exact .inr ⟨g, o, e, hr⟩
theorem RawOff.nil (S : Nat → Prop) (w : World) (A : Option Addr) : RawOff S w A [] := .inl rfl
theorem RawOff.turned {S : Nat → Prop} {w w' : World} {A : Option Addr} {vs : List Value} (h : RawOff S w A vs) (ht : Turned S w w') : RawOff S w' A vs := by
  rcases h with h | ⟨g, o, e, hn, hr⟩
  · exact .inl h
  · exact .inr ⟨g, o, e, hn, fun j v hv => ht.cell (hr j v hv) hn⟩
theorem RawOff.weaken {S T : Nat → Prop} {w : World} {A : Option Addr} {vs : List Value} (h : RawOff S w A vs) (hT : ∀ k, T k → S k) : RawOff T w A vs := by
  rcases h with h | ⟨g, o, e, hn, hr⟩
  · exact .inl h
  · exact .inr ⟨g, o, e, fun ht => hn (hT g ht), hr⟩
theorem RawOff.drop {S : Nat → Prop} {w : World} {A : Option Addr} {vs : List Value} (h : RawOff S w A vs) (k : Nat) : RawOff S w (A.map (·.add k)) (vs.drop k) := by
  rcases h with h | ⟨g, o, e, hn, hr⟩
  · exact .inl (by rw [h, List.drop_nil])
  · refine .inr ⟨g, o + k, by rw [e, Option.map_some, Addr.add_mid], hn, fun j v hv => ?_⟩
    rw [List.getElem?_drop] at hv
    rw [Nat.add_assoc]
    exact hr (k + j) v hv
theorem RawOff.cell {S : Nat → Prop} {w : World} {A : Option Addr} {vs : List Value} (h : RawOff S w A vs) {i : Nat} {v : Value} (hv : vs[i]? = some v) : ∃ g o, A = some ⟨g, o, none⟩ ∧ w.cell? ⟨g, o + i, none⟩ = some v := h.raw.cell hv
theorem own_off {S : Nat → Prop} {w : World} {base : Nat} {e : TypeId} {sz : Nat} {v : Value} {n : Nat} {vs : List Value} (h : w.ownsRow base e sz v n vs) (hS : ∀ k, S k → k < base) : ∃ A c, v = .slice A n c ∧ n ≤ c ∧ RawOff S w A vs ∧ vs.length = n * sz := by
  obtain ⟨A, c, e1, h1, h2, h3⟩ := own_form h
  refine ⟨A, c, e1, h1, ?_, h3⟩
  rcases h2 with h2 | ⟨g, o, e2, hr⟩
  · exact .inl h2
  · refine .inr ⟨g, o, e2, fun hs => ?_, hr⟩
    have hb := (World.ownsRow.lt h g (by rw [e1, e2]; rfl)).1
    have := hS g hs
    omega
inductive IsP (S : Nat → Prop) (w : World) : PN → NV → Prop
  | mk {k : Int} {T : Nat → Nat} {lo hi num : Int} {kids : List PN} {A : Option Addr} {c : Nat} (xs : List NV) (hl : xs.length = kids.length) (hc : kids.length ≤ c) (hr : RawOff S w A (nsV xs)) (hk : ∀ (i : Nat) (t : PN) (x : NV), kids[i]? = some t → xs[i]? = some x → IsP S w t x) : IsP S w (.mk k T lo hi num kids) ⟨k, T, lo, hi, num, A, kids.length, c⟩
theorem IsP.turned {S : Nat → Prop} {w w' : World} (ht : Turned S w w') {t : PN} {x : NV} (h : IsP S w t x) : IsP S w' t x := by
  induction h with
  | mk xs hl hc hr _ ih => exact .mk xs hl hc (hr.turned ht) ih
theorem IsP.weaken {S T : Nat → Prop} {w : World} (hT : ∀ k, T k → S k) {t : PN} {x : NV} (h : IsP S w t x) : IsP T w t x := by
  induction h with
  | mk xs hl hc hr _ ih => exact .mk xs hl hc (hr.weaken hT) ih
theorem IsP.stays {S : Nat → Prop} {w w' : World} (hb : Below w.heap.size w w') {t : PN} {x : NV} (h : IsP S w t x) : IsP S w' t x := h.turned (Turned.of_below hb)
theorem IsP.leaf (S : Nat → Prop) (w : World) (k : Int) (T : Nat → Nat) (lo hi num : Int) : IsP S w (.mk k T lo hi num []) ⟨k, T, lo, hi, num, none, 0, 0⟩ := .mk [] rfl (Nat.le_refl _) (.nil _ _ _) (fun i t x h _ => by simp at h)
def AllP (S : Nat → Prop) (w : World) (ts : List PN) (xs : List NV) : Prop := xs.length = ts.length ∧ ∀ (i : Nat) (t : PN) (x : NV), ts[i]? = some t → xs[i]? = some x → IsP S w t x
theorem AllP.nil (S : Nat → Prop) (w : World) : AllP S w [] [] := ⟨rfl, fun i t x h _ => by simp at h⟩
theorem AllP.turned {S : Nat → Prop} {w w' : World} (ht : Turned S w w') {ts : List PN} {xs : List NV} (h : AllP S w ts xs) : AllP S w' ts xs := ⟨h.1, fun i t x h1 h2 => (h.2 i t x h1 h2).turned ht⟩
theorem AllP.push {S : Nat → Prop} {w : World} {ts : List PN} {xs : List NV} {t : PN} {x : NV} (h : AllP S w ts xs) (ht : IsP S w t x) : AllP S w (ts ++ [t]) (xs ++ [x]) := by
  refine ⟨by rw [List.length_append, List.length_append, h.1]; rfl, fun i s y h1 h2 => ?_⟩
  by_cases hi : i < ts.length
  · rw [List.getElem?_append_left hi] at h1
    rw [List.getElem?_append_left (by rw [h.1]; exact hi)] at h2
    exact h.2 i s y h1 h2
  · rw [List.getElem?_append_right (by omega)] at h1
    rw [List.getElem?_append_right (by rw [h.1]; omega), h.1] at h2
    have e : i - ts.length = 0 := by
      have := (List.getElem?_eq_some_iff.1 h1).1
      simp at this
      omega
    rw [e] at h1 h2
    simp at h1 h2
    subst h1
    subst h2
    exact ht
theorem AllP.one {S : Nat → Prop} {w : World} {t : PN} {x : NV} (h : IsP S w t x) : AllP S w [t] [x] := (AllP.nil S w).push h
theorem AllP.node {S : Nat → Prop} {w : World} {ts : List PN} {xs : List NV} {A : Option Addr} {c : Nat} (h : AllP S w ts xs) (hc : ts.length ≤ c) (hr : RawOff S w A (nsV xs)) (k : Int) (T : Nat → Nat) (lo hi num : Int) : IsP S w (.mk k T lo hi num ts) ⟨k, T, lo, hi, num, A, ts.length, c⟩ := .mk xs h.1 hc hr h.2
set_option maxRecDepth 100000 in
theorem info_node : (Try.prog.info? 37).map (fun i => (i.zero, i.size, i.bytes)) = some (some (.agg #[.int .i64 0, .int .u64 0, .int .u64 0, .int .u64 0, .int .u64 0, .int .i64 0, .int .i64 0, .int .i64 0, .slice none 0 0]), 9, 88) := by kernel_rfl
set_option maxRecDepth 100000 in
theorem info_tok : (Try.prog.info? 111).map (fun i => (i.zero, i.size, i.bytes)) = some (some (.agg #[.int .i64 0, .int .u64 0, .int .u64 0, .int .u64 0, .int .u64 0, .int .i64 0, .int .i64 0]), 7, 56) := by kernel_rfl
def Tok.cells (t : Tok) : List Value := [.int .i64 t.kind, .int .u64 (t.set 0), .int .u64 (t.set 1), .int .u64 (t.set 2), .int .u64 (t.set 3), .int .i64 t.lo, .int .i64 t.hi]
def tsV (xs : List Tok) : List Value := xs.flatMap Tok.cells
theorem tsV_append (a b : List Tok) : tsV (a ++ b) = tsV a ++ tsV b := by simp [tsV]
theorem oneCell_tsV {xs : List Tok} : ∀ v ∈ tsV xs, v.oneCell' = true := by
  intro v hv
  obtain ⟨f, _, hv⟩ := List.mem_flatMap.1 hv
  simp only [Tok.cells, List.mem_cons, List.not_mem_nil, or_false] at hv
  rcases hv with rfl | rfl | rfl | rfl | rfl | rfl | rfl <;> rfl
theorem elem_node : ElemOf 35 37 9 88 := by
  obtain ⟨i, hi, hz, hs, hb⟩ := info_parts info_node
  exact ⟨Try.underlying35, ⟨i, _, hi, hz, hs, hb, rfl⟩, by omega, by omega⟩
theorem elem_tok : ElemOf 96 111 7 56 := by
  obtain ⟨i, hi, hz, hs, hb⟩ := info_parts info_tok
  exact ⟨Try.underlying96, ⟨i, _, hi, hz, hs, hb, rfl⟩, by omega, by omega⟩
end Go.Proofs.Ytncbmdbfdjhkeaa

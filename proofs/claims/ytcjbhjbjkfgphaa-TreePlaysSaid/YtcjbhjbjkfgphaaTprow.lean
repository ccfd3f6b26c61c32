/-
  Rows that a call owns and of which every cell is known: what is in them, and noughts behind; one more put behind. Condition: at most 100000 in a row.
-/
import Derived.Test.YtcjbhjbjkfgphaaTpfar
import Derived.ArgAppend
namespace Go.Proofs.Ytcjbhjbjkfgphaa
open Go.RowKit Go.Deep

/-- A row of one-cell values: xs, and noughts up to the capacity. -/
def RowX (w : World) (base : Nat) (e : TypeId) (zv : Value) (v : Value) (xs : List Value) : Prop :=
  ∃ g cap tail : Nat, v = .slice (some ⟨g, 0, none⟩) xs.length cap ∧ base ≤ g ∧ xs.length + tail = cap ∧ w.heap[g]? = some (.cells (xs ++ List.replicate tail zv).toArray e (0, 0))
theorem RowX.below {w w' : World} {base : Nat} {e : TypeId} {zv v : Value} {xs : List Value} (h : RowX w base e zv v xs) (hb : Below w.heap.size w w') : RowX w' base e zv v xs := by
  obtain ⟨g, cap, tail, h1, h2, h3, h4⟩ := h
  exact ⟨g, cap, tail, h1, h2, h3, (hb.block g (Array.getElem?_eq_some_iff.1 h4).1).trans h4⟩
theorem RowX.lt {w : World} {base : Nat} {e : TypeId} {zv v : Value} {xs : List Value} (h : RowX w base e zv v xs) {k : Nat} (hk : v.ownBlock = some k) : base ≤ k ∧ k < w.heap.size := by
  obtain ⟨g, cap, tail, rfl, h2, h3, h4⟩ := h
  have e : some g = some k := hk
  injection e with e
  subst e
  exact ⟨h2, (Array.getElem?_eq_some_iff.1 h4).1⟩
theorem RowX.cell {w : World} {base : Nat} {e : TypeId} {zv v : Value} {xs : List Value} (h : RowX w base e zv v xs) : ∃ g cap, v = .slice (some ⟨g, 0, none⟩) xs.length cap ∧ xs.length ≤ cap ∧ ∀ i u, xs[i]? = some u → w.cell? ⟨g, i, none⟩ = some u := by
  obtain ⟨g, cap, tail, h1, _, h3, h4⟩ := h
  refine ⟨g, cap, h1, by omega, fun i u hu => ?_⟩
  have hi := (List.getElem?_eq_some_iff.1 hu).1
  simp [World.cell?, h4, List.getElem?_append_left hi, hu]
theorem RowX.new (w : World) (e : TypeId) (zv u : Value) : RowX (w.alloc (.cells #[u] e)) w.heap.size e zv (.slice (some ⟨w.heap.size, 0, none⟩) 1 1) [u] :=
  ⟨w.heap.size, 1, 0, rfl, Nat.le_refl _, rfl, by simpa using heap_alloc_new w (.cells #[u] e)⟩
theorem below_da (w : World) (o : Obj) : Below w.heap.size w (w.drew.alloc o) := (Below.refl w.heap.size w).drew.alloc (Nat.le_refl _) o
theorem zero_one (zv : Value) (n : Nat) : (Builtin.zeroCells #[zv] n).toList = List.replicate n zv := by
  unfold Builtin.zeroCells
  apply List.ext_getElem?
  intro i
  simp [List.getElem?_replicate]
  by_cases h : i < n
  · simp [h, Nat.mod_one]
  · simp [h]
set_option maxRecDepth 100000 in
theorem row_append {w : World} {base : Nat} {st e : TypeId} {i : TypeInfo} {zv v : Value} {xs : List Value} {by_ : Nat} (ht : Try.prog.underlying st = some (.slice e)) (hi : Try.prog.info? e = some i) (hz : i.zero = some zv) (hs : i.size = 1) (hby : i.bytes = by_) (hb96 : by_ ≤ 96) (hzc : zv.cells = #[zv])
    (h : RowX w base e zv v xs) (u : Value) (hu : u.oneCell' = true) (a : Nat) (ha : w.cell? ⟨a, 0, none⟩ = some u) (hlen : xs.length + 1 ≤ 100000) (hbase : base ≤ w.heap.size) :
    ∃ v' w', (Builtin.append_ #[st, st] st #[v, .slice (some ⟨a, 0, none⟩) 1 1]).run Try.prog w = .ok v' w' ∧ RowX w' base e zv v' (xs ++ [u]) ∧ Turned (fun k => v.ownBlock = some k) w w' ∧ (Below w.heap.size w w' ∨ ∃ g, v.ownBlock = some g ∧ OffB g w w') := by
  obtain ⟨g, cap, tail, rfl, h2, h3, h4⟩ := h
  have hnews : ∀ j x, [u][j]? = some x → w.cell? ((⟨a, 0, none⟩ : Addr).add j) = some x := fun j x hx => by
    have hj : j = 0 := by have := (List.getElem?_eq_some_iff.1 hx).1; simp at this; omega
    subst hj
    simp at hx
    subst hx
    exact ha
  have h1 : ∀ x ∈ [u], x.oneCell' = true := by intro x hx; simp at hx; subst hx; exact hu
  by_cases hroom : xs.length + 1 ≤ cap
  · obtain ⟨tl, rfl⟩ : ∃ tl, tail = tl + 1 := ⟨tail - 1, by omega⟩
    have hcell : w.cell? ⟨g, xs.length, none⟩ = some zv := by
      simp [World.cell?, h4]
    have hfr : w.frozen? ⟨g, xs.length, none⟩ = false := by simp [World.frozen?, h4]
    refine ⟨_, _, run_append_room_cells (P := Try.prog) w st st e i ht hi g 0 xs.length cap ⟨a, 0, none⟩ 1 1 [u] (by simp [hs]) hnews h1 hroom (fun j hj => ?_) (fun j hj => ?_), ⟨g, cap, tl, by simp, h2, by simp; omega, ?_⟩, ?_⟩
    · have hj0 : j = 0 := by simpa using hj
      subst hj0
      simp [hs, hcell]
    · have hj0 : j = 0 := by simpa using hj
      subst hj0
      simp [hs, hfr]
    · have := Go.Joins.block_setCell (i := xs.length) h4 u
      simp only [hs, Nat.zero_add, Nat.mul_one, World.setCells]
      rw [this]
      congr 2
      apply Array.ext'
      rw [List.setIfInBounds_toArray]
      simp [List.set_append_right, List.replicate_succ]
    · simp only [hs, Nat.zero_add, Nat.mul_one, World.setCells]
      exact ⟨⟨rfl, rfl, rfl, by simp, fun k _ hn => Below.heap_setCell w _ u k fun e => hn (by rw [e]; rfl)⟩, .inr ⟨g, rfl, ⟨fun k hk => Below.heap_setCell w _ u k hk⟩⟩⟩
  · have hc : cap = xs.length := by omega
    have ht0 : tail = 0 := by omega
    subst ht0
    subst hc
    have hold : ∀ j x, xs[j]? = some x → w.cell? ((⟨g, 0, none⟩ : Addr).add j) = some x := fun j x hx => by
      rw [Addr.add_mid, Nat.zero_add]
      have hj := (List.getElem?_eq_some_iff.1 hx).1
      simp [World.cell?, h4, hx]
    have hg : xs.length < xs.length + 1 := by omega
    have hr := run_append_grow (P := Try.prog) w st st e i zv ht hi hz ⟨g, 0, none⟩ xs.length xs.length xs (by simp [hs]) hold ⟨a, 0, none⟩ 1 1 [u] (by simp [hs]) hnews hg (by omega) (by rw [hby]; exact growslice_fits hg (Nat.le_trans (Nat.mul_le_mul hlen hb96) (by decide)))
    have hge := grownCap_ge w (xs.length + 1) xs.length e
    refine ⟨_, _, hr, ⟨w.heap.size, grownCap w (xs.length + 1) xs.length e, grownCap w (xs.length + 1) xs.length e - (xs.length + 1), by simp, hbase, by simp; omega, ?_⟩, ?_⟩
    · rw [hzc]
      have := heap_alloc_new w.drew (.cells (xs.toArray ++ [u].toArray ++ Builtin.zeroCells #[zv] (grownCap w (xs.length + 1) xs.length e - (xs.length + 1))) e)
      refine Eq.trans this ?_
      congr 2
      apply Array.ext'
      simp [zero_one]
    · exact ⟨Turned.of_below (below_da w _), .inl (below_da w _)⟩
end Go.Proofs.Ytcjbhjbjkfgphaa

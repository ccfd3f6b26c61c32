/-
  Lists of bytes copied into a row that the call owns, and one more put behind. Condition: those named at each law.
-/
import Derived.Test.YtpfdlcogldbocaaJref3
namespace Go.Proofs.Ytpfdlcogldbocaa
open Go.RowKit Go.Deep Go.Maps

/-- A slice of bytes as a value, whose bytes lie in Y. -/
def SlIn (w : World) (Y : Nat → Prop) (v : Value) (l : List UInt8) : Prop := ∃ B c, v = .slice B l.length c ∧ ∀ j b, l[j]? = some b → ∃ h p, B = some ⟨h, p, none⟩ ∧ Y h ∧ w.cell? ⟨h, p + j, none⟩ = some (byteV b)
theorem SlIn.turned {w w' : World} {Y Y' T : Nat → Prop} {v : Value} {l : List UInt8} (h : SlIn w Y v l) (ht : Turned T w w') (hT : ∀ j, Y j → ¬ T j) (hY : ∀ j, Y j → Y' j) : SlIn w' Y' v l := by
  obtain ⟨B, c, rfl, hB⟩ := h
  refine ⟨B, c, rfl, fun j b hj => ?_⟩
  obtain ⟨h, p, e, hh, hc⟩ := hB j b hj
  exact ⟨h, p, e, hY h hh, ht.cell hc (hT h hh)⟩
/-- A row of slices that the call owns, each one's bytes in Y. -/
def RowsOwn (w : World) (base : Nat) (Y : Nat → Prop) (v : Value) (ls : List (List UInt8)) : Prop :=
  ∃ vs : List Value, w.ownsRow base 39 1 v ls.length vs ∧ vs.length = ls.length ∧ ∀ (i : Nat) (x : Value), vs[i]? = some x → ∃ l, ls[i]? = some l ∧ SlIn w Y x l
theorem RowsOwn.turned {w w' : World} {base : Nat} {Y Y' T : Nat → Prop} {v : Value} {ls : List (List UInt8)} (h : RowsOwn w base Y v ls) (ht : Turned T w w') (hv : ∀ k, v.ownBlock = some k → ¬ T k) (hT : ∀ j, Y j → ¬ T j) (hY : ∀ j, Y j → Y' j) : RowsOwn w' base Y' v ls := by
  obtain ⟨vs, h1, h2, h3⟩ := h
  refine ⟨vs, ownsRow_turned h1 ht hv, h2, fun i x hx => ?_⟩
  obtain ⟨l, hl, hs⟩ := h3 i x hx
  exact ⟨l, hl, hs.turned ht hT hY⟩
theorem RowsOwn.rows {w : World} {base g n c : Nat} {Y : Nat → Prop} {ls : List (List UInt8)} (h : RowsOwn w base Y (.slice (some ⟨g, 0, none⟩) n c) ls) {Y' : Nat → Prop} (hg : Y' g) (hY : ∀ j, Y j → Y' j) : RowsIn w Y' (some ⟨g, 0, none⟩) ls := by
  obtain ⟨vs, h1, h2, h3⟩ := h
  intro i l hi
  have hil := (List.getElem?_eq_some_iff.1 hi).1
  have hn : n = ls.length := by
    rcases h1.2 with ⟨e, _⟩ | ⟨g', cap, cur, e, _⟩
    · simp at e
    · simp at e; exact e.2.1
  subst hn
  obtain ⟨x, hx⟩ : ∃ x, vs[i]? = some x := ⟨vs[i]'(by omega), List.getElem?_eq_getElem _⟩
  obtain ⟨l', hl', B, c', rfl, hb⟩ := h3 i x hx
  rw [hi] at hl'
  cases hl'
  refine ⟨g, 0, B, c', rfl, hg, ?_, fun j b hj => ?_⟩
  · rw [Nat.zero_add, World.ownsRow.cellAt h1 i (by omega), hx]
  · obtain ⟨h, p, e, hh, hc⟩ := hb j b hj
    exact ⟨h, p, e, hY h hh, hc⟩
/-- The values of a list that lies in memory. -/
theorem RowsIn.values {w : World} {Y : Nat → Prop} {A : Option Addr} {ls : List (List UInt8)} (h : RowsIn w Y A ls) : ∃ vs : List Value, vs.length = ls.length ∧ ∀ (i : Nat) (x : Value), vs[i]? = some x → ∃ l g o, ls[i]? = some l ∧ A = some ⟨g, o, none⟩ ∧ w.cell? ⟨g, o + i, none⟩ = some x ∧ SlIn w Y x l ∧ x.oneCell' = true := by
  have key : ∀ i, i < ls.length → ∃ x : Value, ∃ l g o, ls[i]? = some l ∧ A = some ⟨g, o, none⟩ ∧ w.cell? ⟨g, o + i, none⟩ = some x ∧ SlIn w Y x l ∧ x.oneCell' = true := fun i hi => by
    obtain ⟨g, o, B, c, e, _, hc, hB⟩ := h i ls[i] (List.getElem?_eq_getElem hi)
    exact ⟨_, _, g, o, List.getElem?_eq_getElem hi, e, hc, ⟨B, c, rfl, hB⟩, rfl⟩
  obtain ⟨Fv, hFv⟩ := choose_lt key
  refine ⟨(List.range ls.length).map Fv, by simp, fun i x hx => ?_⟩
  rw [List.getElem?_map] at hx
  by_cases hi : i < ls.length
  · rw [List.getElem?_range hi] at hx
    simp only [Option.map_some, Option.some.injEq] at hx
    obtain ⟨l, g, o, h1, h2, h3, h4, h5⟩ := hFv i hi
    rw [hx] at h3 h4 h5
    exact ⟨l, g, o, h1, h2, h3, h4, h5⟩
  · rw [List.getElem?_eq_none (by simp; omega)] at hx
    cases hx

theorem run_empty_rows (w : World) : (Instr.buildSlice 49 0 #[]).run Try.prog w = .ok (.slice (some ⟨w.heap.size, 0, none⟩) 0 0) (w.alloc (.cells #[] 39)) := by kernel_rfl

set_option maxRecDepth 100000 in
theorem run_append_rows {w : World} {Y : Nat → Prop} (g : Nat) (hg : g = w.heap.size) (A : Option Addr) (ls : List (List UInt8)) (cap : Nat) (h : RowsIn w Y A ls) (hn : ls.length ≤ 1099511627776) :
    ∃ g' c' w', (Builtin.append_ #[49, 49] 49 #[.slice (some ⟨g, 0, none⟩) 0 0, .slice A ls.length cap]).run Try.prog (w.alloc (.cells #[] 39)) = .ok (.slice (some ⟨g', 0, none⟩) ls.length c') w' ∧
      RowsOwn w' w.heap.size Y (.slice (some ⟨g', 0, none⟩) ls.length c') ls ∧ Below w.heap.size w w' := by
  subst hg
  obtain ⟨i, hi, hz, hs, hby⟩ := info_parts info_bytes
  have hown0 : (w.alloc (.cells #[] 39)).ownsRow w.heap.size 39 1 (.slice (some ⟨w.heap.size, 0, none⟩) 0 0) 0 [] := ⟨rfl, .inr ⟨_, 0, #[], rfl, Nat.le_refl _, heap_alloc_new w _, Nat.le_refl _, by unfold maxLen; omega, rfl, rfl⟩⟩
  have hb0 : Below w.heap.size w (w.alloc (.cells #[] 39)) := (Below.refl _ _).alloc (Nat.le_refl _) _
  match ls, h, hn with
  | [], _, _ =>
    refine ⟨w.heap.size, 0, _, ?_, ⟨[], hown0, rfl, fun i x hx => by simp at hx⟩, hb0⟩
    have h0 : ∀ a : Addr, (loadCells a 0).run Try.prog (w.alloc (.cells #[] 39)) = .ok #[] (w.alloc (.cells #[] 39)) := fun a => by
      have := run_loadCells_list (P := Try.prog) (w.alloc (.cells #[] 39)) a [] (fun j v hj => by simp at hj)
      simpa using this
    cases A <;> simp [h0, Builtin.append_, run_underlying Try.underlying49, sizeOf, typeInfo, hi, Builtin.lenOf, Builtin.firstCells, storeCells]
  | b :: r, h, hn =>
    obtain ⟨vs, hvl, hvs⟩ := h.values
    obtain ⟨x0, hx0⟩ : ∃ x, vs[0]? = some x := ⟨vs[0]'(by rw [hvl]; simp), List.getElem?_eq_getElem _⟩
    obtain ⟨_, ga, oa, _, rfl, _⟩ := hvs 0 x0 hx0
    obtain ⟨gg, cc, w', hap, hown, hgrow, hat, _⟩ := run_append_lies (P := Try.prog) (w.alloc (.cells #[] 39)) 49 49 w.heap.size 39 i _ 1 24 Try.underlying49 hi hz hs hby (by rfl) (by omega) _ 0 [] hown0 ⟨ga, oa, none⟩ (b :: r).length cap vs (by rw [hvl, Nat.mul_one])
      (fun j u hu => by
        obtain ⟨_, g2, o2, _, e2, hc, _⟩ := hvs j u hu
        cases e2
        rw [Addr.add_mid, World.cell?_of_block (Below.heap_alloc w _ ga (World.block_lt_of_cell? _ _ hc)), hc]) (fun u hu => by
        obtain ⟨j, hj⟩ := List.getElem?_of_mem hu
        obtain ⟨_, _, _, _, _, _, _, h1⟩ := hvs j u hj
        exact h1) (by simp) (by unfold maxLen; omega) (by omega) (by simp) _ rfl
    rw [Nat.zero_add, List.nil_append] at *
    have hbw : Below w.heap.size w w' := hb0.grown hgrow (by simp) (fun k hk => by have e : some w.heap.size = some k := hk; injection e with e; omega)
    refine ⟨gg, cc, w', hap, ⟨vs, hown, hvl, fun j x hx => ?_⟩, hbw⟩
    obtain ⟨l, _, _, h1, _, _, h4, _⟩ := hvs j x hx
    exact ⟨l, h1, h4.turned (Turned.of_below (S := fun _ => False) hbw) (fun _ _ h => h) (fun _ h => h)⟩

set_option maxRecDepth 100000 in
/-- .. one slice more, written out ahead of it. -/
theorem run_append_one {w : World} {base g n c : Nat} {Y : Nat → Prop} {ls : List (List UInt8)} (h : RowsOwn w base Y (.slice (some ⟨g, 0, none⟩) n c) ls) (hgY : ¬ Y g) (_hYl : ∀ j, Y j → j < w.heap.size) (hn0 : n = ls.length) (hn : n ≤ 1099511627776) (hbase : base ≤ w.heap.size) (B : Option Addr) (l : List UInt8) (cl : Nat) (hB : SlIn w Y (.slice B l.length cl) l) :
    ∃ g' c' w', (Builtin.append_ #[49, 49] 49 #[.slice (some ⟨g, 0, none⟩) n c, .slice (some ⟨w.heap.size, 0, none⟩) 1 1]).run Try.prog (w.alloc (.cells #[.slice B l.length cl] 39)) = .ok (.slice (some ⟨g', 0, none⟩) (n + 1) c') w' ∧
      RowsOwn w' base Y (.slice (some ⟨g', 0, none⟩) (n + 1) c') (ls ++ [l]) ∧ Turned (fun j => j = g) w w' ∧ (g' = g ∨ w.heap.size ≤ g') ∧ g' < w'.heap.size := by
  obtain ⟨i, hi, hz, hs, hby⟩ := info_parts info_bytes
  obtain ⟨vs, h1, h2, h3⟩ := h
  subst hn0
  obtain ⟨gg, cc, w', hap, hown, hgrow, hat, hgl⟩ := run_append_lies (P := Try.prog) (w.alloc (.cells #[.slice B l.length cl] 39)) 49 49 base 39 i _ 1 24 Try.underlying49 hi hz hs hby (by rfl) (by omega) _ ls.length vs (World.ownsRow.alloc h1 _) ⟨w.heap.size, 0, none⟩ 1 1 [.slice B l.length cl] rfl
    (fun j u hu => by
      have hj : j = 0 := by have := (List.getElem?_eq_some_iff.1 hu).1; simp at this; omega
      subst hj
      simp at hu
      subst hu
      rw [Addr.add_mid, World.cell?_alloc_mark]
      rfl) (by intro u hu; simp at hu; subst hu; rfl) (by omega) (by unfold maxLen; omega) (by omega) (by simp; omega) _ rfl
  have ht : Turned (fun j => j = g) w w' := (Turned.of_below (S := fun j => j = g) ((Below.refl w.heap.size w).alloc (Nat.le_refl _) _)).trans (Turned.of_grown (S := fun j => j = g) hgrow (fun k hk => by have e : some g = some k := hk; injection e with e; exact e.symm)) (fun _ _ h => h)
  have keep : ∀ v m, SlIn w Y v m → SlIn w' Y v m := fun v m hm => hm.turned ht (fun j hj e => hgY (e ▸ hj)) (fun _ h => h)
  refine ⟨gg, cc, w', hap, ⟨vs ++ [.slice B l.length cl], by rw [List.length_append]; exact hown, by simp [h2], fun j x hx => ?_⟩, ht, ?_, hgl⟩
  · by_cases hj : j < ls.length
    · rw [List.getElem?_append_left (by omega)] at hx
      obtain ⟨m, hm, hs'⟩ := h3 j x hx
      exact ⟨m, by rw [List.getElem?_append_left hj]; exact hm, keep _ _ hs'⟩
    · have hj2 := (List.getElem?_eq_some_iff.1 hx).1
      rw [List.length_append, List.length_singleton] at hj2
      have hj3 : j = ls.length := by omega
      subst hj3
      rw [List.getElem?_append_right (by omega), h2] at hx
      simp at hx
      subst hx
      exact ⟨l, by simp, keep _ _ hB⟩
  · rcases hat with hat | hat
    · left
      have e : some g = some gg := hat
      injection e with e
      exact e.symm
    · right
      rw [hat]
      simp
end Go.Proofs.Ytpfdlcogldbocaa

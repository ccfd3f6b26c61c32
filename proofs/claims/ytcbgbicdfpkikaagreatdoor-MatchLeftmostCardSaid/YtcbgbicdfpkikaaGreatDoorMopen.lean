/-
  A pattern's tree among a call's arguments: read as data, it is a tree in memory. Condition: the data are read as the arguments' reader reads them.
-/
import Derived.Test.YtcbgbicdfpkikaaGreatDoorK07
import Derived.ProofKit
import Derived.OpenShut
import Derived.Deep.Slices
namespace Go.Proofs.YtcbgbicdfpkikaaGreatDoor
open Go.ChangeShapes Go.WideShapes Go.ChangeAt Go.ChangeMaps Go.RowKit Go.Deep

section
variable {H : Type} {enc : TypeId × Value → H} {w : World} {held : Bool}
set_option maxRecDepth 100000 in
theorem cells_node : Tryz.prog.cellsOf 28 = 9 := by kernel_rfl
set_option maxRecDepth 100000 in
theorem cells_set4 : Tryz.prog.cellsOf 25 = 4 := by kernel_rfl
set_option maxRecDepth 100000 in
theorem cells_kind1 : Tryz.prog.cellsOf 22 = 1 := by kernel_rfl
set_option maxRecDepth 100000 in
theorem cells_int1 : Tryz.prog.cellsOf 3 = 1 := by kernel_rfl
set_option maxRecDepth 100000 in
theorem cells_u641 : Tryz.prog.cellsOf 23 = 1 := by kernel_rfl
set_option maxRecDepth 100000 in
theorem cells_kids1 : Tryz.prog.cellsOf 26 = 1 := by kernel_rfl
theorem list9 {α : Type} {l : List α} (h : l.length = 9) : ∃ a0 a1 a2 a3 a4 a5 a6 a7 a8, l = [a0, a1, a2, a3, a4, a5, a6, a7, a8] := by
  match l, h with
  | [a0, a1, a2, a3, a4, a5, a6, a7, a8], _ => exact ⟨_, _, _, _, _, _, _, _, _, rfl⟩
theorem list6 {α : Type} {l : List α} (h : l.length = 6) : ∃ a0 a1 a2 a3 a4 a5, l = [a0, a1, a2, a3, a4, a5] := by
  match l, h with
  | [a0, a1, a2, a3, a4, a5], _ => exact ⟨_, _, _, _, _, _, rfl⟩
theorem list4 {α : Type} {l : List α} (h : l.length = 4) : ∃ a0 a1 a2 a3, l = [a0, a1, a2, a3] := by
  match l, h with
  | [a0, a1, a2, a3], _ => exact ⟨_, _, _, _, rfl⟩
theorem word_wf {n : Int} (h : (Lit.int .u64 n).wf = true) : n = ((n.toNat : Nat) : Int) := by
  have : 0 ≤ n := by
    have h2 : IntKind.u64.min = 0 := rfl
    simp [Lit.wf, h2] at h
    omega
  omega
theorem int_one {fuel : Nat} {t : TypeId} {k : IntKind} {v : Value} {x : DataW H × List MemPlace} (ht : Tryz.prog.underlying t = some (.int k)) (h : DataW.trod enc Tryz.prog w 0 (fun _ => true) held fuel t [v] = some x) : ∃ n, v = .int k n ∧ (Lit.int k n).wf = true := by
  obtain ⟨n, e, _, hw⟩ := DataW.trod_int ht h
  exact ⟨n, by simpa using e, hw⟩
set_option maxRecDepth 100000 in
theorem open_set {fuel : Nat} {v1 v2 v3 v4 : Value} {x : DataW H × List MemPlace} (h : DataW.trod enc Tryz.prog w 0 (fun _ => true) held fuel 25 [v1, v2, v3, v4] = some x) : ∃ T : Nat → Nat, v1 = .int .u64 (T 0) ∧ v2 = .int .u64 (T 1) ∧ v3 = .int .u64 (T 2) ∧ v4 = .int .u64 (T 3) := by
  obtain ⟨xs, m, _, _, _, hn, hel⟩ := DataW.trod_array Tryz.underlying25 h
  obtain ⟨y0, y1, y2, y3, rfl⟩ := list4 hn
  have h0 := hel 0 (by omega)
  have h1 := hel 1 (by omega)
  have h2 := hel 2 (by omega)
  have h3 := hel 3 (by omega)
  rw [cells_u641] at h0 h1 h2 h3
  obtain ⟨n0, rfl, w0⟩ := int_one Tryz.underlying23 (v := v1) (x := y0) h0
  obtain ⟨n1, rfl, w1⟩ := int_one Tryz.underlying23 (v := v2) (x := y1) h1
  obtain ⟨n2, rfl, w2⟩ := int_one Tryz.underlying23 (v := v3) (x := y2) h2
  obtain ⟨n3, rfl, w3⟩ := int_one Tryz.underlying23 (v := v4) (x := y3) h3
  refine ⟨fun k => if k = 0 then n0.toNat else if k = 1 then n1.toNat else if k = 2 then n2.toNat else n3.toNat, ?_, ?_, ?_, ?_⟩
  · exact congrArg _ (word_wf w0)
  · exact congrArg _ (word_wf w1)
  · exact congrArg _ (word_wf w2)
  · exact congrArg _ (word_wf w3)
/-- Cells of rows, laid one behind the other. -/
theorem raw_nodes {g o : Nat} : ∀ {xs : List NV}, (∀ (i : Nat) (x : NV), xs[i]? = some x → ∀ (j : Nat) (v : Value), x.cells[j]? = some v → w.cell? ⟨g, o + i * 9 + j, none⟩ = some v) → w.rangeAt g o (nsV xs) := by
  intro xs h j v hv
  have hl := (List.getElem?_eq_some_iff.1 hv).1
  rw [length_nsV] at hl
  have hi : j / 9 < xs.length := by omega
  have hx : xs[j / 9]? = some xs[j / 9] := List.getElem?_eq_getElem hi
  have hj : j % 9 < (xs[j / 9]).cells.length := by
    show j % 9 < 9
    omega
  have hc : (xs[j / 9]).cells[j % 9]? = some ((xs[j / 9]).cells[j % 9]) := List.getElem?_eq_getElem hj
  have h1 := h (j / 9) _ hx (j % 9) _ hc
  have h2 := nsV_at (j / 9) _ hx (j % 9) _ hc
  have e : j / 9 * 9 + j % 9 = j := by omega
  rw [e, hv] at h2
  rw [Nat.add_assoc, e] at h1
  rw [h1, ← h2]
/-- A family made one list. -/
theorem list_of {n : Nat} {P : Nat → PN × NV → Prop} (h : ∀ i, i < n → ∃ p, P i p) : ∃ l : List (PN × NV), l.length = n ∧ ∀ i p, l[i]? = some p → P i p := by
  induction n with
  | zero => exact ⟨[], rfl, fun i p h => by simp at h⟩
  | succ n ih =>
    obtain ⟨l, hl, hp⟩ := ih fun i hi => h i (by omega)
    obtain ⟨p, hpn⟩ := h n (by omega)
    refine ⟨l ++ [p], by simp [hl], fun i q hq => ?_⟩
    by_cases hi : i < l.length
    · rw [List.getElem?_append_left hi] at hq
      exact hp i q hq
    · have : i < (l ++ [p]).length := (List.getElem?_eq_some_iff.1 hq).1
      simp at this
      have e : i = n := by omega
      subst e
      rw [List.getElem?_append_right (by omega), hl, Nat.sub_self] at hq
      simp at hq
      subst hq
      exact hpn
set_option maxRecDepth 100000 in
theorem open_node : ∀ (fuel : Nat) (cs : List Value) (x : DataW H × List MemPlace), DataW.trod enc Tryz.prog w 0 (fun _ => true) held fuel 28 cs = some x → ∃ (t : PN) (y : NV), cs = y.cells ∧ IsP (fun _ => False) w t y := by
  intro fuel
  induction fuel using Nat.strongRecOn with
  | _ fuel ih =>
  intro cs x h
  obtain ⟨xs, n, hfu, _, hl, hn, hf⟩ := DataW.trod_struct Tryz.underlying28 h
  rw [cells_node] at hl
  obtain ⟨c0, c1, c2, c3, c4, c5, c6, c7, c8, rfl⟩ := list9 hl
  obtain ⟨y0, y1, y2, y3, y4, y5, rfl⟩ := list6 hn
  have f0 : DataW.trod enc Tryz.prog w 0 (fun _ => true) held n 22 (([c0, c1, c2, c3, c4, c5, c6, c7, c8].drop 0).take (Tryz.prog.cellsOf 22)) = [y0, y1, y2, y3, y4, y5][0]? := hf 0 _ rfl
  have f1 : DataW.trod enc Tryz.prog w 0 (fun _ => true) held n 25 (([c0, c1, c2, c3, c4, c5, c6, c7, c8].drop 1).take (Tryz.prog.cellsOf 25)) = [y0, y1, y2, y3, y4, y5][1]? := hf 1 _ rfl
  have f2 : DataW.trod enc Tryz.prog w 0 (fun _ => true) held n 3 (([c0, c1, c2, c3, c4, c5, c6, c7, c8].drop 5).take (Tryz.prog.cellsOf 3)) = [y0, y1, y2, y3, y4, y5][2]? := hf 2 _ rfl
  have f3 : DataW.trod enc Tryz.prog w 0 (fun _ => true) held n 3 (([c0, c1, c2, c3, c4, c5, c6, c7, c8].drop 6).take (Tryz.prog.cellsOf 3)) = [y0, y1, y2, y3, y4, y5][3]? := hf 3 _ rfl
  have f4 : DataW.trod enc Tryz.prog w 0 (fun _ => true) held n 3 (([c0, c1, c2, c3, c4, c5, c6, c7, c8].drop 7).take (Tryz.prog.cellsOf 3)) = [y0, y1, y2, y3, y4, y5][4]? := hf 4 _ rfl
  have f5 : DataW.trod enc Tryz.prog w 0 (fun _ => true) held n 26 (([c0, c1, c2, c3, c4, c5, c6, c7, c8].drop 8).take (Tryz.prog.cellsOf 26)) = [y0, y1, y2, y3, y4, y5][5]? := hf 5 _ rfl
  rw [cells_kind1] at f0
  rw [cells_set4] at f1
  rw [cells_int1] at f2 f3 f4
  rw [cells_kids1] at f5
  obtain ⟨k, rfl, _⟩ := int_one Tryz.underlying22 (v := c0) (x := y0) f0
  obtain ⟨T, rfl, rfl, rfl, rfl⟩ := open_set (v1 := c1) (v2 := c2) (v3 := c3) (v4 := c4) (x := y1) f1
  obtain ⟨lo, rfl, _⟩ := int_one Tryz.underlying3 (v := c5) (x := y2) f2
  obtain ⟨hi, rfl, _⟩ := int_one Tryz.underlying3 (v := c6) (x := y3) f3
  obtain ⟨num, rfl, _⟩ := int_one Tryz.underlying3 (v := c7) (x := y4) f4
  have f5' : DataW.trod enc Tryz.prog w 0 (fun _ => true) held n 26 [c8] = some y5 := f5
  rcases DataW.trod_slice Tryz.underlying26 f5' with ⟨e, _⟩ | ⟨a, len, cap, elems, rest, m, hm, e, _, _, hlc, _, hel, hat, _, _⟩
  · have e8 : c8 = .slice none 0 0 := by simpa using e
    subst e8
    exact ⟨.mk k T lo hi num [], ⟨k, T, lo, hi, num, none, 0, 0⟩, rfl, IsP.leaf _ _ _ _ _ _ _⟩
  · have e8 : c8 = .slice (some a) len cap := by simpa using e
    subst e8
    rw [cells_node] at hat
    obtain ⟨l, hll, hlp⟩ := list_of (n := len) (P := fun i p => w.cells? 0 (a.add (i * 9)) 9 = some p.2.cells ∧ IsP (fun _ => False) w p.1 p.2) (fun i hi => by
      have h1 := hat i hi
      rw [List.getElem?_eq_getElem (by omega)] at h1
      obtain ⟨cs', h2, h3⟩ := Option.bind_eq_some_iff.1 h1
      obtain ⟨t, y, rfl, hy⟩ := ih m (by omega) cs' _ h3
      exact ⟨(t, y), h2, hy⟩)
    have hIs := IsP.mk (S := fun _ => False) (w := w) (k := k) (T := T) (lo := lo) (hi := hi) (num := num) (kids := l.map (·.1)) (A := some a) (c := cap) (l.map (·.2)) (by simp) (by simp; omega) ?_ (fun i t' x' h1 h2 => by
      rw [List.getElem?_map] at h1 h2
      cases hg : l[i]? with
      | none => rw [hg] at h1; cases h1
      | some p =>
        rw [hg] at h1 h2
        simp only [Option.map_some, Option.some.injEq] at h1 h2
        subst h1 h2
        exact (hlp i p hg).2)
    · refine ⟨.mk k T lo hi num (l.map (·.1)), ⟨k, T, lo, hi, num, some a, (l.map (·.1)).length, cap⟩, ?_, hIs⟩
      simp [NV.cells, hll]
    · rcases Nat.eq_zero_or_pos len with h0 | h0
      · left
        have : l = [] := List.length_eq_zero_iff.1 (by omega)
        rw [this]
        rfl
      · right
        obtain ⟨p0, hp0⟩ : ∃ p, l[0]? = some p := ⟨l[0]'(by omega), List.getElem?_eq_getElem _⟩
        obtain ⟨g, o, sp⟩ := a
        have h1 := (World.cells?_some (hlp 0 p0 hp0).1).2.2 0 (by omega)
        have hsp : sp = none := by
          cases sp with
          | none => rfl
          | some s =>
            rw [Nat.zero_mul] at h1
            have h2 : (((⟨g, o, some s⟩ : Addr).add 0).add 0) = ⟨g, o, some s⟩ := rfl
            rw [h2] at h1
            unfold World.cell? at h1
            cases hh : w.heap[g]? with
            | none => simp [hh, NV.cells] at h1
            | some ob => cases ob <;> simp [hh, NV.cells] at h1
        subst hsp
        refine ⟨g, o, rfl, fun h => h, raw_nodes fun i x hx j v hv => ?_⟩
        rw [List.getElem?_map] at hx
        cases hg : l[i]? with
        | none => rw [hg] at hx; cases hx
        | some p =>
          rw [hg] at hx
          simp only [Option.map_some, Option.some.injEq] at hx
          subst hx
          have hj : j < 9 := (List.getElem?_eq_some_iff.1 hv).1
          have h3 := (World.cells?_some (hlp i p hg).1).2.2 j hj
          rw [hv, Addr.add_mid, Addr.add_mid] at h3
          exact h3
set_option maxRecDepth 100000 in
theorem open_node_arg {r : Reach} {b0 : Nat} {v : Value} {d : DataW H} {p : List MemPlace} (hv : Value.okWide Tryz.prog w r b0 28 v) (h : DataW.Trod enc Tryz.prog w 0 (fun _ => true) held 28 v d p) :
    ∃ (t : PN) (y : NV), v = y.v ∧ IsP (fun _ => False) w t y := by
  have h2 : ∃ cs, v = .agg cs := by
    simp only [Value.okWide, Tryz.underlying28] at hv
    obtain ⟨cs, h1, _⟩ := hv
    exact ⟨cs, h1⟩
  obtain ⟨cs, rfl⟩ := h2
  obtain ⟨fuel, hf⟩ := h
  obtain ⟨t, y, e, hy⟩ := open_node fuel _ _ hf
  refine ⟨t, y, ?_, hy⟩
  have e2 : cs.toList = y.cells := by simpa [Value.cells] using e
  have e3 : cs = y.cells.toArray := by rw [← e2]
  rw [e3]
  rfl
end
end Go.Proofs.YtcbgbicdfpkikaaGreatDoor

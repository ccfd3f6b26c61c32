/-
  Two addresses, a look, truths among the arguments. Condition: the data are read as the arguments' reader reads them.
-/
import Derived.Test.YtaagadaamnolcaaAs7
import Derived.ProofKit
import Derived.OpenShut
import Derived.Deep.Slices
import Derived.Deep.Grids
import Derived.Lib.SmallJoins
import Derived.Lay
import Derived.ShutString
namespace Go.Proofs.Ytaagadaamnolcaa
open Go.ChangeShapes Go.WideShapes Go.ChangeAt Go.ChangeMaps Go.RowKit Go.Deep Go.Maps

set_option maxRecDepth 100000 in
theorem own_none : ownKnob Try.prog.godebug = none := by kernel_rfl
set_option maxRecDepth 100000 in
theorem laid_out : laidOutB Try.prog = true := by kernel_rfl
section
variable {H : Type} {enc : TypeId × Value → H} {w : World} {base : Nat} {held : Bool}
theorem open_num {fuel : Nat} {v : Value} {x : DataW H × List MemPlace} (h : DataW.trod enc Try.prog w base (fun _ => true) held fuel 3 [v] = some x) : ∃ n, v = .int .i64 n := by
  obtain ⟨k, e, _, hk⟩ := DataW.trod_int Try.underlying3 h
  exact ⟨k, by simpa using e⟩
theorem open_kind {fuel : Nat} {v : Value} {x : DataW H × List MemPlace} (h : DataW.trod enc Try.prog w base (fun _ => true) held fuel 22 [v] = some x) : ∃ n, v = .int .i64 n := by
  obtain ⟨k, e, _, hk⟩ := DataW.trod_int Try.underlying22 h
  exact ⟨k, by simpa using e⟩
theorem open_truth {fuel : Nat} {v : Value} {x : DataW H × List MemPlace} (h : DataW.trod enc Try.prog w base (fun _ => true) held fuel 4 [v] = some x) : ∃ b, v = .bool b := by
  obtain ⟨b, e, _⟩ := DataW.trod_bool Try.underlying4 h
  exact ⟨b, by simpa using e⟩
theorem cells_int : Try.prog.cellsOf 3 = 1 := by kernel_rfl
theorem cells_bool : Try.prog.cellsOf 4 = 1 := by kernel_rfl
theorem cells_kind : Try.prog.cellsOf 22 = 1 := by kernel_rfl
theorem cells_two : Try.prog.cellsOf 24 = 5 := by kernel_rfl
theorem cells_look : Try.prog.cellsOf 26 = 4 := by kernel_rfl
set_option maxRecDepth 100000 in
theorem open_two {r : Reach} {b0 : Nat} {v : Value} {d : DataW H} {p : List MemPlace} (hv : Value.okWide Try.prog w r b0 24 v) (h : DataW.Trod enc Try.prog w base (fun _ => true) held 24 v d p) : ∃ f t fl tl nt, v = .agg #[.int .i64 f, .int .i64 t, .int .i64 fl, .int .i64 tl, .bool nt] := by
  obtain ⟨cs, rfl, _⟩ := okWide_struct Try.underlying24 hv
  obtain ⟨fuel, hf0⟩ := h
  obtain ⟨xs, n, _, _, hl, hx, hf⟩ := DataW.trod_struct Try.underlying24 hf0
  rw [cells_two] at hl
  obtain ⟨l, rfl⟩ : ∃ l : List Value, cs = l.toArray := ⟨cs.toList, by simp⟩
  simp only [Value.cells] at hl hf
  match l, hl with
  | [c0, c1, c2, c3, c4], _ =>
    match xs, hx with
    | [x0, x1, x2, x3, x4], _ =>
      have f0 : DataW.trod enc Try.prog w base (fun _ => true) held n 22 (([c0, c1, c2, c3, c4].drop 0).take (Try.prog.cellsOf 22)) = some x0 := hf 0 _ rfl
      rw [cells_kind] at f0
      have f1 : DataW.trod enc Try.prog w base (fun _ => true) held n 22 (([c0, c1, c2, c3, c4].drop 1).take (Try.prog.cellsOf 22)) = some x1 := hf 1 _ rfl
      rw [cells_kind] at f1
      have f2 : DataW.trod enc Try.prog w base (fun _ => true) held n 3 (([c0, c1, c2, c3, c4].drop 2).take (Try.prog.cellsOf 3)) = some x2 := hf 2 _ rfl
      rw [cells_int] at f2
      have f3 : DataW.trod enc Try.prog w base (fun _ => true) held n 3 (([c0, c1, c2, c3, c4].drop 3).take (Try.prog.cellsOf 3)) = some x3 := hf 3 _ rfl
      rw [cells_int] at f3
      have f4 : DataW.trod enc Try.prog w base (fun _ => true) held n 4 (([c0, c1, c2, c3, c4].drop 4).take (Try.prog.cellsOf 4)) = some x4 := hf 4 _ rfl
      rw [cells_bool] at f4
      obtain ⟨k0, rfl⟩ := open_kind (x := x0) f0
      obtain ⟨k1, rfl⟩ := open_kind (x := x1) f1
      obtain ⟨k2, rfl⟩ := open_num (x := x2) f2
      obtain ⟨k3, rfl⟩ := open_num (x := x3) f3
      obtain ⟨k4, rfl⟩ := open_truth (x := x4) f4
      exact ⟨k0, k1, k2, k3, k4, rfl⟩
set_option maxRecDepth 100000 in
theorem open_look {r : Reach} {b0 : Nat} {v : Value} {d : DataW H} {p : List MemPlace} (hv : Value.okWide Try.prog w r b0 26 v) (h : DataW.Trod enc Try.prog w base (fun _ => true) held 26 v d p) : ∃ n la fi se, v = .agg #[.int .i64 n, .bool la, .bool fi, .bool se] := by
  obtain ⟨cs, rfl, _⟩ := okWide_struct Try.underlying26 hv
  obtain ⟨fuel, hf0⟩ := h
  obtain ⟨xs, n, _, _, hl, hx, hf⟩ := DataW.trod_struct Try.underlying26 hf0
  rw [cells_look] at hl
  obtain ⟨l, rfl⟩ : ∃ l : List Value, cs = l.toArray := ⟨cs.toList, by simp⟩
  simp only [Value.cells] at hl hf
  match l, hl with
  | [c0, c1, c2, c3], _ =>
    match xs, hx with
    | [x0, x1, x2, x3], _ =>
      have f0 : DataW.trod enc Try.prog w base (fun _ => true) held n 3 (([c0, c1, c2, c3].drop 0).take (Try.prog.cellsOf 3)) = some x0 := hf 0 _ rfl
      rw [cells_int] at f0
      have f1 : DataW.trod enc Try.prog w base (fun _ => true) held n 4 (([c0, c1, c2, c3].drop 1).take (Try.prog.cellsOf 4)) = some x1 := hf 1 _ rfl
      rw [cells_bool] at f1
      have f2 : DataW.trod enc Try.prog w base (fun _ => true) held n 4 (([c0, c1, c2, c3].drop 2).take (Try.prog.cellsOf 4)) = some x2 := hf 2 _ rfl
      rw [cells_bool] at f2
      have f3 : DataW.trod enc Try.prog w base (fun _ => true) held n 4 (([c0, c1, c2, c3].drop 3).take (Try.prog.cellsOf 4)) = some x3 := hf 3 _ rfl
      rw [cells_bool] at f3
      obtain ⟨k0, rfl⟩ := open_num (x := x0) f0
      obtain ⟨k1, rfl⟩ := open_truth (x := x1) f1
      obtain ⟨k2, rfl⟩ := open_truth (x := x2) f2
      obtain ⟨k3, rfl⟩ := open_truth (x := x3) f3
      exact ⟨k0, k1, k2, k3, rfl⟩
theorem open_truths {r : Reach} {b0 : Nat} {v : Value} {d : DataW H} {p : List MemPlace} (hv : Value.okWide Try.prog w r b0 47 v) (h : DataW.Trod enc Try.prog w base (fun _ => true) held 47 v d p) : ∃ S l c, v = .slice S (l : List Bool).length c ∧ RawAt w S (bV l) := by
  obtain ⟨a0, len0, cap0, rfl⟩ := okWide_slice Try.underlying47 hv
  obtain ⟨fuel, hf⟩ := h
  rcases open_bools Try.underlying47 Try.underlying4 cells_bool hf with ⟨hcs, _⟩ | ⟨a, len, cap, B, hcs, hb, hl, hm, _, hi⟩
  · exact ⟨none, [], 0, by simpa [Value.cells] using hcs, .inl rfl⟩
  · have hv : Value.slice a0 len0 cap0 = .slice (some a) len cap := by simpa [Value.cells] using hcs
    refine ⟨some a, (List.range len).map B, cap, by rw [hv]; simp, ?_⟩
    by_cases h0 : len = 0
    · subst h0
      exact .inl rfl
    obtain ⟨g, off, sp⟩ := a
    cases sp with
    | some s =>
      have h1 := hi 0 (by omega)
      have e0 : (⟨g, off, some s⟩ : Addr).add 0 = ⟨g, off, some s⟩ := rfl
      rw [e0] at h1
      unfold World.cell? at h1
      split at h1 <;> simp at h1
    | none =>
      refine .inr ⟨g, off, rfl, fun k u hu => ?_⟩
      have hk : k < len := by
        have := (List.getElem?_eq_some_iff.1 hu).1
        simpa [bV] using this
      have h1 := hi k (by omega)
      rw [Addr.add_mid] at h1
      rw [h1]
      simp [bV, List.getElem?_range hk] at hu
      rw [← hu]
end
end Go.Proofs.Ytaagadaamnolcaa

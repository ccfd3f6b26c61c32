/-
  Briefs among the arguments. Condition: the data are read as the arguments' reader reads them.
-/
import Derived.Test.YthlkmlphbepnpaaPg13
import Derived.ProofKit
import Derived.OpenShut
import Derived.Deep.Slices
import Derived.Lib.SmallJoins
import Derived.Lay
namespace Go.Proofs.Ythlkmlphbepnpaa
open Go.ChangeShapes Go.WideShapes Go.ChangeAt Go.ChangeMaps Go.RowKit Go.Deep Go.Maps

set_option maxRecDepth 100000 in
theorem own_none : ownKnob Try.prog.godebug = none := by kernel_rfl
set_option maxRecDepth 100000 in
theorem laid_out : laidOutB Try.prog = true := by kernel_rfl
instance : Inhabited BM := ⟨⟨0, ⟨#[]⟩, ⟨#[]⟩, 0⟩⟩
theorem flat_inv {α : Type} {f : α → List Value} {m : Nat} (hf : ∀ x, (f x).length = m) : ∀ (l : List α) (k : Nat) (v : Value), (l.flatMap f)[k]? = some v → ∃ i x j, l[i]? = some x ∧ (f x)[j]? = some v ∧ k = i * m + j
  | [], k, v, h => by simp at h
  | a :: r, k, v, h => by
    rw [List.flatMap_cons] at h
    by_cases hk : k < m
    · rw [List.getElem?_append_left (by rw [hf]; exact hk)] at h
      exact ⟨0, a, k, rfl, h, by omega⟩
    · rw [List.getElem?_append_right (by rw [hf]; omega), hf] at h
      obtain ⟨i, x, j, h1, h2, h3⟩ := flat_inv hf r _ v h
      exact ⟨i + 1, x, j, by simpa using h1, h2, by rw [Nat.add_mul]; omega⟩
section
variable {H : Type} {enc : TypeId × Value → H} {w : World} {base : Nat} {held : Bool}
theorem open_num {fuel : Nat} {v : Value} {x : DataW H × List MemPlace} (h : DataW.trod enc Try.prog w base (fun _ => true) held fuel 3 [v] = some x) : ∃ n, v = .int .i64 n := by
  obtain ⟨k, e, _, hk⟩ := DataW.trod_int Try.underlying3 h
  exact ⟨k, by simpa using e⟩
theorem open_byte {fuel : Nat} {v : Value} {x : DataW H × List MemPlace} (h : DataW.trod enc Try.prog w base (fun _ => true) held fuel 5 [v] = some x) : ∃ n, v = .int .u8 n := by
  obtain ⟨k, e, _, hk⟩ := DataW.trod_int Try.underlying5 h
  exact ⟨k, by simpa using e⟩
set_option maxRecDepth 100000 in
theorem cells_int : Try.prog.cellsOf 3 = 1 := by kernel_rfl
set_option maxRecDepth 100000 in
theorem cells_byte : Try.prog.cellsOf 5 = 1 := by kernel_rfl
set_option maxRecDepth 100000 in
theorem cells_string : Try.prog.cellsOf 9 = 1 := by kernel_rfl
theorem open_txt {fuel : Nat} {v : Value} {x : DataW H × List MemPlace} (h : DataW.trod enc Try.prog w base (fun _ => true) held fuel 9 [v] = some x) : ∃ s, v = .string s := by
  obtain ⟨s, e, _, hm⟩ := DataW.trod_string Try.underlying9 h
  exact ⟨s, by simpa using e⟩
theorem cells_brief : Try.prog.cellsOf 58 = 4 := by kernel_rfl
set_option maxRecDepth 100000 in
theorem open_brief {fuel : Nat} {cs : List Value} {x : DataW H × List MemPlace} (h : DataW.trod enc Try.prog w base (fun _ => true) held fuel 58 cs = some x) : ∃ o : BM, cs = o.cells := by
  obtain ⟨xs, n, _, _, hl, hx, hf⟩ := DataW.trod_struct Try.underlying58 h
  rw [cells_brief] at hl
  match cs, hl with
  | [c0, c1, c2, c3], _ =>
    match xs, hx with
    | [x0, x1, x2, x3], _ =>
      have f0 : DataW.trod enc Try.prog w base (fun _ => true) held n 5 (([c0, c1, c2, c3].drop 0).take (Try.prog.cellsOf 5)) = some x0 := hf 0 _ rfl
      rw [cells_byte] at f0
      have f1 : DataW.trod enc Try.prog w base (fun _ => true) held n 9 (([c0, c1, c2, c3].drop 1).take (Try.prog.cellsOf 9)) = some x1 := hf 1 _ rfl
      rw [cells_string] at f1
      have f2 : DataW.trod enc Try.prog w base (fun _ => true) held n 9 (([c0, c1, c2, c3].drop 2).take (Try.prog.cellsOf 9)) = some x2 := hf 2 _ rfl
      rw [cells_string] at f2
      have f3 : DataW.trod enc Try.prog w base (fun _ => true) held n 3 (([c0, c1, c2, c3].drop 3).take (Try.prog.cellsOf 3)) = some x3 := hf 3 _ rfl
      rw [cells_int] at f3
      obtain ⟨k0, rfl⟩ := open_byte (x := x0) f0
      obtain ⟨k1, rfl⟩ := open_txt (x := x1) f1
      obtain ⟨k2, rfl⟩ := open_txt (x := x2) f2
      obtain ⟨k3, rfl⟩ := open_num (x := x3) f3
      exact ⟨⟨k0, k1, k2, k3⟩, rfl⟩
/-- An address that a cell is read at names no spot. -/
theorem plain_addr {a : Addr} (h : (w.cell? (a.add 0)).isSome = true) : ∃ g o, a = ⟨g, o, none⟩ := by
  obtain ⟨g, o, sp⟩ := a
  have e0 : (⟨g, o, sp⟩ : Addr).add 0 = ⟨g, o, sp⟩ := rfl
  rw [e0] at h
  cases sp with
  | none => exact ⟨g, o, rfl⟩
  | some s =>
    unfold World.cell? at h
    split at h <;> simp at h
set_option maxRecDepth 100000 in
theorem open_briefs {r : Reach} {b0 : Nat} {v : Value} {d : DataW H} {p : List MemPlace} (hv : Value.okWide Try.prog w r b0 22 v) (h : DataW.Trod enc Try.prog w base (fun _ => true) held 22 v d p) :
    ∃ S os cap, v = .slice S (os : List BM).length cap ∧ RawAt w S (bmV os) := by
  obtain ⟨a0, len0, cap0, rfl⟩ := okWide_slice Try.underlying22 hv
  obtain ⟨fuel, hf⟩ := h
  rcases open_slice Try.underlying22 hf with ⟨hcs, _⟩ | ⟨a, len, cap, m, n, D, Pl, hcs, _, hl, hm, hmm, _, hi⟩
  · exact ⟨none, [], 0, by simpa [Value.cells] using hcs, .inl rfl⟩
  · have hmm2 : m = cap := by simpa using hmm
    subst hmm2
    clear hmm
    rw [cells_brief] at hi
    have key : ∀ i, i < m → ∃ o : BM, w.cells? base (a.add (i * 4)) 4 = some o.cells := fun i him => by
      obtain ⟨cs, h1, h2⟩ := hi i him
      obtain ⟨o, rfl⟩ := open_brief h2
      exact ⟨o, h1⟩
    obtain ⟨F, hF⟩ := choose_lt key
    have hv : Value.slice a0 len0 cap0 = .slice (some a) len m := by simpa [Value.cells] using hcs
    refine ⟨some a, (List.range len).map F, m, by rw [hv]; simp, ?_⟩
    by_cases h0 : len = 0
    · subst h0
      exact .inl rfl
    · obtain ⟨_, _, hat0⟩ := World.cells?_some (hF 0 (by omega))
      have h00 := hat0 (i := 0) (by omega)
      obtain ⟨g, off, rfl⟩ := plain_addr (w := w) (a := a) (by
        have e : w.cell? ((a.add (0 * 4)).add 0) = _ := h00
        simp only [Nat.zero_mul] at e
        have e0 : (a.add 0).add 0 = a.add 0 := rfl
        rw [e0] at e
        rw [e]
        rfl)
      refine .inr ⟨g, off, rfl, fun k u hu => ?_⟩
      obtain ⟨i, o, j, h1, h2, rfl⟩ := flat_inv BM.len _ k u hu
      have hil : i < len := by
        have := (List.getElem?_eq_some_iff.1 h1).1
        simpa using this
      rw [List.getElem?_map, List.getElem?_range hil] at h1
      simp only [Option.map_some, Option.some.injEq] at h1
      have hc := hF i (by omega)
      rw [h1] at hc
      obtain ⟨_, hcl, hat⟩ := World.cells?_some hc
      have hj : j < 4 := by have := (List.getElem?_eq_some_iff.1 h2).1; simpa [BM.cells] using this
      have := hat (i := j) hj
      rw [Addr.add_mid, Addr.add_mid, Nat.add_assoc] at this
      rw [this, h2]
end
end Go.Proofs.Ythlkmlphbepnpaa

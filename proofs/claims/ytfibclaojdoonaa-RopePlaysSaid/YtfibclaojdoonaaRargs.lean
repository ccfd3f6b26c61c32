/-
  The arguments of the laws on ropes: three whole numbers, three strings in an array. Condition: the data are read as the arguments' reader reads them.
-/
import Derived.Test.YtfibclaojdoonaaRapi
import Derived.ProofKit
import Derived.OpenShut
import Derived.Deep.Slices
import Derived.Lib.SmallJoins
namespace Go.Proofs.Ytfibclaojdoonaa
open Go.ChangeShapes Go.WideShapes Go.ChangeAt Go.ChangeMaps Go.RowKit Go.Deep Go.Maps

section
variable {H : Type} {enc : TypeId × Value → H} {w : World} {base : Nat} {held : Bool}
theorem open_num {fuel : Nat} {v : Value} {x : DataW H × List MemPlace} (h : DataW.trod enc Try.prog w base (fun _ => true) held fuel 3 [v] = some x) : ∃ n, v = .int .i64 n ∧ (Lit.int .i64 n).wf = true := by
  obtain ⟨k, e, _, hk⟩ := DataW.trod_int Try.underlying3 h
  exact ⟨k, by simpa using e, hk⟩
set_option maxRecDepth 100000 in
theorem cells_int : Try.prog.cellsOf 3 = 1 := by kernel_rfl
set_option maxRecDepth 100000 in
theorem cells_string : Try.prog.cellsOf 9 = 1 := by kernel_rfl
set_option maxRecDepth 100000 in
theorem cells_ints3 : Try.prog.cellsOf 44 = 3 := by kernel_rfl
set_option maxRecDepth 100000 in
theorem cells_strs3 : Try.prog.cellsOf 48 = 3 := by kernel_rfl
theorem okWide_arr {P : Program} {r : Reach} {b0 : Nat} {t e : TypeId} {n : Nat} {v : Value} (ht : P.underlying t = some (.array n e)) (h : Value.okWide P w r b0 t v) : ∃ cs, v = .agg cs ∧ cs.size = P.cellsOf t := by
  simp only [Value.okWide, ht] at h
  obtain ⟨cs, h1, h2, _⟩ := h
  exact ⟨cs, h1, h2⟩
theorem array3 {α : Type} {cs : Array α} (h : cs.size = 3) : ∃ a b c, cs = #[a, b, c] := by
  rcases cs with ⟨l⟩
  match l, h with
  | [a, b, c], _ => exact ⟨a, b, c, rfl⟩

set_option maxRecDepth 100000 in
theorem open_ints3 {r : Reach} {b0 : Nat} {v : Value} {d : DataW H} {p : List MemPlace} (hv : Value.okWide Try.prog w r b0 44 v) (h : DataW.Trod enc Try.prog w base (fun _ => true) held 44 v d p) :
    ∃ x y z : Int, v = .agg #[.int .i64 x, .int .i64 y, .int .i64 z] ∧ (Lit.int .i64 x).wf = true ∧ (Lit.int .i64 y).wf = true ∧ (Lit.int .i64 z).wf = true := by
  obtain ⟨cs, rfl, hs⟩ := okWide_arr Try.underlying44 hv
  rw [cells_ints3] at hs
  obtain ⟨c0, c1, c2, rfl⟩ := array3 hs
  obtain ⟨fuel, hf⟩ := h
  obtain ⟨xs, m, _, _, _, hn, hel⟩ := DataW.trod_array Try.underlying44 hf
  have h0 := hel 0 (by omega)
  have h1 := hel 1 (by omega)
  have h2 := hel 2 (by omega)
  rw [cells_int] at h0 h1 h2
  match xs, hn with
  | [x0, x1, x2], _ =>
    obtain ⟨x, rfl, wx⟩ := open_num (v := c0) (x := x0) h0
    obtain ⟨y, rfl, wy⟩ := open_num (v := c1) (x := x1) h1
    obtain ⟨z, rfl, wz⟩ := open_num (v := c2) (x := x2) h2
    exact ⟨x, y, z, rfl, wx, wy, wz⟩

theorem open_txt {fuel : Nat} {v : Value} {x : DataW H × List MemPlace} (h : DataW.trod enc Try.prog w base (fun _ => true) held fuel 9 [v] = some x) : ∃ s, v = .string s ∧ s.size ≤ maxLen := by
  obtain ⟨s, e, _, hm⟩ := DataW.trod_string Try.underlying9 h
  exact ⟨s, by simpa using e, hm⟩
set_option maxRecDepth 100000 in
theorem open_strs3 {r : Reach} {b0 : Nat} {v : Value} {d : DataW H} {p : List MemPlace} (hv : Value.okWide Try.prog w r b0 48 v) (h : DataW.Trod enc Try.prog w base (fun _ => true) held 48 v d p) :
    ∃ x y z : ByteArray, v = .agg #[.string x, .string y, .string z] := by
  obtain ⟨cs, rfl, hs⟩ := okWide_arr Try.underlying48 hv
  rw [cells_strs3] at hs
  obtain ⟨c0, c1, c2, rfl⟩ := array3 hs
  obtain ⟨fuel, hf⟩ := h
  obtain ⟨xs, m, _, _, _, hn, hel⟩ := DataW.trod_array Try.underlying48 hf
  have h0 := hel 0 (by omega)
  have h1 := hel 1 (by omega)
  have h2 := hel 2 (by omega)
  rw [cells_string] at h0 h1 h2
  match xs, hn with
  | [x0, x1, x2], _ =>
    obtain ⟨x, rfl, _⟩ := open_txt (v := c0) (x := x0) h0
    obtain ⟨y, rfl, _⟩ := open_txt (v := c1) (x := x1) h1
    obtain ⟨z, rfl, _⟩ := open_txt (v := c2) (x := x2) h2
    exact ⟨x, y, z, rfl⟩
end
end Go.Proofs.Ytfibclaojdoonaa

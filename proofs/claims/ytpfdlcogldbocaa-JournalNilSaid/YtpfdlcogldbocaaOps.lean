/-
  The operations of the laws' scripts among a call's arguments: a struct of numbers, bytes and bools, by value and in a slice, as the cells that a walk reads. Condition: the data are read as the arguments' reader reads them.
-/
import Derived.Test.YtpfdlcogldbocaaCut3
import Derived.Test.YtpfdlcogldbocaaBytes
import Derived.ProofKit
import Derived.OpenShut
import Derived.Deep.Slices
import Derived.Deep.Grids
namespace Go.Proofs.Ytpfdlcogldbocaa
open Go.RowKit Go.Maps Go.ChangeShapes Go.WideShapes Go.Deep

/-- An operation as it lies in memory. -/
structure OpM where
  kind : Int
  n : Int
  torn : Int
  A : Option Addr
  b : List UInt8
  bcap : Nat
  K : Option Addr
  keep : List Bool
  kcap : Nat
instance : Inhabited OpM := ⟨⟨0, 0, 0, none, [], 0, none, [], 0⟩⟩
def OpM.cells (o : OpM) : List Value := [.int .i64 o.kind, .int .i64 o.n, .slice o.A o.b.length o.bcap, .slice o.K o.keep.length o.kcap, .int .i64 o.torn]
def OpM.good (w : World) (o : OpM) : Prop :=
  BytesAt w o.A o.b ∧ BoolsAt w o.K o.keep ∧ (Lit.int .i64 o.kind).wf = true ∧ (Lit.int .i64 o.n).wf = true ∧ (Lit.int .i64 o.torn).wf = true ∧ o.b.length ≤ o.bcap ∧ o.bcap ≤ maxLen ∧ o.keep.length ≤ maxLen

section
variable {H : Type} {enc : TypeId × Value → H} {w : World} {base : Nat} {held : Bool}
set_option maxRecDepth 100000 in
theorem cells_bool : Try.prog.cellsOf 4 = 1 := by kernel_rfl
set_option maxRecDepth 100000 in
theorem cells_op : Try.prog.cellsOf 42 = 5 := by kernel_rfl
set_option maxRecDepth 100000 in
theorem cells_int : Try.prog.cellsOf 3 = 1 := by kernel_rfl
set_option maxRecDepth 100000 in
theorem cells_bytes : Try.prog.cellsOf 39 = 1 := by kernel_rfl
set_option maxRecDepth 100000 in
theorem cells_bools : Try.prog.cellsOf 40 = 1 := by kernel_rfl

set_option maxRecDepth 100000 in
theorem open_bools_at {fuel : Nat} {v : Value} {x : DataW H × List MemPlace} (h : DataW.trod enc Try.prog w base (fun _ => true) held fuel 40 [v] = some x) :
    ∃ A l cap, v = .slice A l.length cap ∧ BoolsAt w A l ∧ l.length ≤ maxLen := by
  rcases open_bools Try.underlying40 Try.underlying4 cells_bool h with ⟨hcs, _⟩ | ⟨a, len, cap, B, hcs, _, hl, hm, _, hcell⟩
  · exact ⟨none, [], 0, by simpa using hcs, fun i b hb => by simp at hb, by unfold maxLen; simp⟩
  · have hv : v = .slice (some a) len cap := by simpa using hcs
    refine ⟨some a, (List.range len).map B, cap, by rw [hv]; simp, ?_, by simp; omega⟩
    intro i b hb
    rw [List.getElem?_map] at hb
    by_cases hil : i < len
    · rw [List.getElem?_range hil] at hb
      simp only [Option.map_some, Option.some.injEq] at hb
      have hc := hcell i (by omega)
      obtain ⟨g, o, rfl, hgo⟩ := plain_addr (i := i) (fun j hj => by rw [hcell j (by omega)]; rfl) hc
      exact ⟨g, o, rfl, by rw [hgo, hb]⟩
    · rw [List.getElem?_eq_none (by simp; omega)] at hb
      cases hb

set_option maxRecDepth 100000 in
theorem open_num {fuel : Nat} {v : Value} {x : DataW H × List MemPlace} (h : DataW.trod enc Try.prog w base (fun _ => true) held fuel 3 [v] = some x) : ∃ n, v = .int .i64 n ∧ (Lit.int .i64 n).wf = true := by
  obtain ⟨k, e, _, hk⟩ := DataW.trod_int Try.underlying3 h
  exact ⟨k, by simpa using e, hk⟩

set_option maxRecDepth 100000 in
/-- The cells of one operation. -/
theorem open_op {fuel : Nat} {cs : List Value} {x : DataW H × List MemPlace} (h : DataW.trod enc Try.prog w base (fun _ => true) held fuel 42 cs = some x) : ∃ o : OpM, cs = o.cells ∧ o.good w := by
  obtain ⟨xs, n, _, _, hl, hx, hf⟩ := DataW.trod_struct Try.underlying42 h
  rw [cells_op] at hl
  match cs, hl with
  | [c0, c1, c2, c3, c4], _ =>
    match xs, hx with
    | [x0, x1, x2, x3, x4], _ =>
      have f0 : DataW.trod enc Try.prog w base (fun _ => true) held n 3 (([c0, c1, c2, c3, c4].drop 0).take (Try.prog.cellsOf 3)) = some x0 := hf 0 _ rfl
      rw [cells_int] at f0
      have f1 : DataW.trod enc Try.prog w base (fun _ => true) held n 3 (([c0, c1, c2, c3, c4].drop 1).take (Try.prog.cellsOf 3)) = some x1 := hf 1 _ rfl
      rw [cells_int] at f1
      have f2 : DataW.trod enc Try.prog w base (fun _ => true) held n 39 (([c0, c1, c2, c3, c4].drop 2).take (Try.prog.cellsOf 39)) = some x2 := hf 2 _ rfl
      rw [cells_bytes] at f2
      have f3 : DataW.trod enc Try.prog w base (fun _ => true) held n 40 (([c0, c1, c2, c3, c4].drop 3).take (Try.prog.cellsOf 40)) = some x3 := hf 3 _ rfl
      rw [cells_bools] at f3
      have f4 : DataW.trod enc Try.prog w base (fun _ => true) held n 3 (([c0, c1, c2, c3, c4].drop 4).take (Try.prog.cellsOf 3)) = some x4 := hf 4 _ rfl
      rw [cells_int] at f4
      obtain ⟨k, rfl, wk⟩ := open_num (x := x0) f0
      obtain ⟨m, rfl, wm⟩ := open_num (x := x1) f1
      obtain ⟨A, l, cap, rfl, hb, hb1, hb2⟩ := open_bytes (x := x2) f2
      obtain ⟨K, ks, kcap, rfl, hk, hk1⟩ := open_bools_at (x := x3) f3
      obtain ⟨t, rfl, wt⟩ := open_num (x := x4) f4
      exact ⟨⟨k, m, t, A, l, cap, K, ks, kcap⟩, rfl, hb, hk, wk, wm, wt, hb1, hb2, hk1⟩

set_option maxRecDepth 100000 in
theorem open_op_arg {r : Reach} {b0 : Nat} {v : Value} {d : DataW H} {p : List MemPlace} (hv : Value.okWide Try.prog w r b0 42 v) (h : DataW.Trod enc Try.prog w base (fun _ => true) held 42 v d p) :
    ∃ o : OpM, v = .agg o.cells.toArray ∧ o.good w := by
  obtain ⟨cs, rfl, _⟩ := okWide_struct Try.underlying42 hv
  obtain ⟨fuel, hf⟩ := h
  obtain ⟨o, e, hg⟩ := open_op hf
  exact ⟨o, by rw [← e]; simp [Value.cells], hg⟩

/-- Operations one behind the other. -/
def OpsAt (w : World) (S : Option Addr) (os : List OpM) : Prop := ∀ i o, os[i]? = some o → o.good w ∧ ∃ g off, S = some ⟨g, off, none⟩ ∧ w.rangeAt g (off + i * 5) o.cells

set_option maxRecDepth 100000 in
theorem open_ops {r : Reach} {b0 : Nat} {v : Value} {d : DataW H} {p : List MemPlace} (hv : Value.okWide Try.prog w r b0 24 v) (h : DataW.Trod enc Try.prog w base (fun _ => true) held 24 v d p) :
    ∃ S os cap, v = .slice S os.length cap ∧ OpsAt w S os ∧ os.length ≤ maxLen := by
  obtain ⟨a0, len0, cap0, rfl⟩ := okWide_slice Try.underlying24 hv
  obtain ⟨fuel, hf⟩ := h
  rcases open_slice Try.underlying24 hf with ⟨hcs, _⟩ | ⟨a, len, cap, m, n, D, Pl, hcs, _, hl, hm, hmm, _, hi⟩
  · refine ⟨none, [], 0, by simpa [Value.cells] using hcs, fun i o ho => by simp at ho, by unfold maxLen; simp⟩
  · have hmm2 : m = cap := by simpa using hmm
    subst hmm2
    clear hmm
    rw [cells_op] at hi
    have key : ∀ i, i < m → ∃ o : OpM, o.good w ∧ w.cells? base (a.add (i * 5)) 5 = some o.cells := fun i him => by
      obtain ⟨cs, h1, h2⟩ := hi i him
      obtain ⟨o, rfl, hg⟩ := open_op h2
      exact ⟨o, hg, h1⟩
    obtain ⟨F, hF⟩ := choose_lt key
    have hv : Value.slice a0 len0 cap0 = .slice (some a) len m := by simpa [Value.cells] using hcs
    refine ⟨some a, (List.range len).map F, m, by rw [hv]; simp, ?_, by simp; omega⟩
    intro i o ho
    rw [List.getElem?_map] at ho
    by_cases hil : i < len
    · rw [List.getElem?_range hil] at ho
      simp only [Option.map_some, Option.some.injEq] at ho
      obtain ⟨hg, hc⟩ := hF i (by omega)
      rw [ho] at hg hc
      obtain ⟨_, hcl, hat⟩ := World.cells?_some hc
      obtain ⟨_, _, hat0⟩ := World.cells?_some (hF 0 (by omega)).2
      have h00 := hat0 (i := 0) (by omega)
      obtain ⟨g, off, ha, _⟩ := plain_addr (w := w) (a := a) (i := 0) (v := .int .i64 (F 0).kind) (fun j hj => by
        obtain rfl : j = 0 := by omega
        have : w.cell? ((a.add (0 * 5)).add 0) = _ := h00
        simp only [Nat.zero_mul] at this
        have e0 : (a.add 0).add 0 = a.add 0 := rfl
        rw [e0] at this
        rw [this]; rfl) (by
        have : w.cell? ((a.add (0 * 5)).add 0) = _ := h00
        simp only [Nat.zero_mul] at this
        exact this)
      subst ha
      refine ⟨hg, g, off, rfl, fun j u hu => ?_⟩
      have hj : j < 5 := by have := (List.getElem?_eq_some_iff.1 hu).1; simpa [OpM.cells] using this
      have := hat (i := j) hj
      rw [Addr.add_mid, Addr.add_mid] at this
      rw [this, hu]
    · rw [List.getElem?_eq_none (by simp; omega)] at ho
      cases ho
end
end Go.Proofs.Ytpfdlcogldbocaa

/-
  The arguments of the laws on trees: whole numbers, texts, acts of a script. Condition: the data are read as the arguments' reader reads them.
-/
import Derived.Test.YtmcohbppeabmgaaTapi
import Derived.ProofKit
import Derived.OpenShut
import Derived.Deep.Slices
import Derived.Lib.SmallJoins
namespace Go.Proofs.Ytmcohbppeabmgaa
open Go.ChangeShapes Go.WideShapes Go.ChangeAt Go.ChangeMaps Go.RowKit Go.Deep Go.Maps

section
variable {H : Type} {enc : TypeId × Value → H} {w : World} {base : Nat} {held : Bool}
theorem open_num {fuel : Nat} {v : Value} {x : DataW H × List MemPlace} (h : DataW.trod enc Try.prog w base (fun _ => true) held fuel 3 [v] = some x) : ∃ n, v = .int .i64 n ∧ (Lit.int .i64 n).wf = true := by
  obtain ⟨k, e, _, hk⟩ := DataW.trod_int Try.underlying3 h
  exact ⟨k, by simpa using e, hk⟩
set_option maxRecDepth 100000 in
theorem cells_int : Try.prog.cellsOf 3 = 1 := by kernel_rfl
set_option maxRecDepth 100000 in
theorem cells_string : Try.prog.cellsOf 9 = 1 := by kernel_rfl
theorem open_txt {fuel : Nat} {v : Value} {x : DataW H × List MemPlace} (h : DataW.trod enc Try.prog w base (fun _ => true) held fuel 9 [v] = some x) : ∃ s, v = .string s ∧ s.size ≤ maxLen := by
  obtain ⟨s, e, _, hm⟩ := DataW.trod_string Try.underlying9 h
  exact ⟨s, by simpa using e, hm⟩
theorem okWide_str {P : Program} {r : Reach} {b0 : Nat} {t : TypeId} {fs : Array Field} {v : Value} (ht : P.underlying t = some (.struct fs)) (h : Value.okWide P w r b0 t v) : ∃ cs, v = .agg cs ∧ cs.size = P.cellsOf t := by
  simp only [Value.okWide, ht] at h
  obtain ⟨cs, h1, h2, _⟩ := h
  exact ⟨cs, h1, h2⟩
end
/-! ### the acts -/
structure ActM where
  kind : Int
  i : Int
  ver : Int
  path : ByteArray
  s : ByteArray
instance : Inhabited ActM := ⟨⟨0, 0, 0, ⟨#[]⟩, ⟨#[]⟩⟩⟩
def ActM.cells (o : ActM) : List Value := [.int .i64 o.kind, .int .i64 o.i, .int .i64 o.ver, .string o.path, .string o.s]
def ActM.good (o : ActM) : Prop := (Lit.int .i64 o.kind).wf = true ∧ (Lit.int .i64 o.i).wf = true ∧ (Lit.int .i64 o.ver).wf = true ∧ o.path.size ≤ maxLen ∧ o.s.size ≤ maxLen
def ActsAt (w : World) (S : Option Addr) (os : List ActM) : Prop := ∀ i o, os[i]? = some o → o.good ∧ ∃ g off, S = some ⟨g, off, none⟩ ∧ w.rangeAt g (off + i * 5) o.cells
section
variable {H : Type} {enc : TypeId × Value → H} {w : World} {base : Nat} {held : Bool}
theorem cells_act : Try.prog.cellsOf 27 = 5 := by kernel_rfl
set_option maxRecDepth 100000 in
theorem open_act {fuel : Nat} {cs : List Value} {x : DataW H × List MemPlace} (h : DataW.trod enc Try.prog w base (fun _ => true) held fuel 27 cs = some x) : ∃ o : ActM, cs = o.cells ∧ o.good := by
  obtain ⟨xs, n, _, _, hl, hx, hf⟩ := DataW.trod_struct Try.underlying27 h
  rw [cells_act] at hl
  match cs, hl with
  | [c0, c1, c2, c3, c4], _ =>
    match xs, hx with
    | [x0, x1, x2, x3, x4], _ =>
      have f0 : DataW.trod enc Try.prog w base (fun _ => true) held n 3 (([c0, c1, c2, c3, c4].drop 0).take (Try.prog.cellsOf 3)) = some x0 := hf 0 _ rfl
      rw [cells_int] at f0
      have f1 : DataW.trod enc Try.prog w base (fun _ => true) held n 3 (([c0, c1, c2, c3, c4].drop 1).take (Try.prog.cellsOf 3)) = some x1 := hf 1 _ rfl
      rw [cells_int] at f1
      have f2 : DataW.trod enc Try.prog w base (fun _ => true) held n 3 (([c0, c1, c2, c3, c4].drop 2).take (Try.prog.cellsOf 3)) = some x2 := hf 2 _ rfl
      rw [cells_int] at f2
      have f3 : DataW.trod enc Try.prog w base (fun _ => true) held n 9 (([c0, c1, c2, c3, c4].drop 3).take (Try.prog.cellsOf 9)) = some x3 := hf 3 _ rfl
      rw [cells_string] at f3
      have f4 : DataW.trod enc Try.prog w base (fun _ => true) held n 9 (([c0, c1, c2, c3, c4].drop 4).take (Try.prog.cellsOf 9)) = some x4 := hf 4 _ rfl
      rw [cells_string] at f4
      obtain ⟨k0, rfl, w0⟩ := open_num (x := x0) f0
      obtain ⟨k1, rfl, w1⟩ := open_num (x := x1) f1
      obtain ⟨k2, rfl, w2⟩ := open_num (x := x2) f2
      obtain ⟨k3, rfl, w3⟩ := open_txt (x := x3) f3
      obtain ⟨k4, rfl, w4⟩ := open_txt (x := x4) f4
      exact ⟨⟨k0, k1, k2, k3, k4⟩, rfl, w0, w1, w2, w3, w4⟩
/-- An address that a cell is read at names no spot. -/
theorem plain_addr {a : Addr} {i : Nat} {v : Value} (h : ∀ j, j ≤ i → (w.cell? (a.add j)).isSome = true) (hv : w.cell? (a.add i) = some v) : ∃ g o, a = ⟨g, o, none⟩ ∧ w.cell? ⟨g, o + i, none⟩ = some v := by
  obtain ⟨g, o, sp⟩ := a
  have h0 := h 0 (Nat.zero_le _)
  have e0 : (⟨g, o, sp⟩ : Addr).add 0 = ⟨g, o, sp⟩ := rfl
  rw [e0] at h0
  cases sp with
  | none =>
    rw [Addr.add_mid] at hv
    exact ⟨g, o, rfl, hv⟩
  | some s =>
    unfold World.cell? at h0
    split at h0 <;> simp at h0
set_option maxRecDepth 100000 in
theorem open_acts {r : Reach} {b0 : Nat} {v : Value} {d : DataW H} {p : List MemPlace} (hv : Value.okWide Try.prog w r b0 22 v) (h : DataW.Trod enc Try.prog w base (fun _ => true) held 22 v d p) :
    ∃ S os cap, v = .slice S os.length cap ∧ ActsAt w S os ∧ os.length ≤ maxLen := by
  obtain ⟨a0, len0, cap0, rfl⟩ := okWide_slice Try.underlying22 hv
  obtain ⟨fuel, hf⟩ := h
  rcases open_slice Try.underlying22 hf with ⟨hcs, _⟩ | ⟨a, len, cap, m, n, D, Pl, hcs, _, hl, hm, hmm, _, hi⟩
  · refine ⟨none, [], 0, by simpa [Value.cells] using hcs, fun i o ho => by simp at ho, by unfold maxLen; simp⟩
  · have hmm2 : m = cap := by simpa using hmm
    subst hmm2
    clear hmm
    rw [cells_act] at hi
    have key : ∀ i, i < m → ∃ o : ActM, o.good ∧ w.cells? base (a.add (i * 5)) 5 = some o.cells := fun i him => by
      obtain ⟨cs, h1, h2⟩ := hi i him
      obtain ⟨o, rfl, hg⟩ := open_act h2
      exact ⟨o, hg, h1⟩
    obtain ⟨F, hF⟩ := choose_lt key
    have hv : Value.slice a0 len0 cap0 = .slice (some a) len m := by simpa [Value.cells] using hcs
    refine ⟨some a, (List.range len).map F, m, by rw [hv]; simp, ?_, by simp; omega⟩
    intro i o ho
    rw [List.getElem?_map] at ho
    by_cases hil : i < len
    · rw [List.getElem?_range hil] at ho
      simp only [Option.map_some, Option.some.injEq] at ho
      obtain ⟨hg, hc⟩ := hF i (by omega)
      rw [ho] at hg hc
      obtain ⟨_, hcl, hat⟩ := World.cells?_some hc
      obtain ⟨_, _, hat0⟩ := World.cells?_some (hF 0 (by omega)).2
      have h00 := hat0 (i := 0) (by omega)
      obtain ⟨g, off, ha, _⟩ := plain_addr (w := w) (a := a) (i := 0) (v := .int .i64 (F 0).kind) (fun j hj => by
        obtain rfl : j = 0 := by omega
        have : w.cell? ((a.add (0 * 5)).add 0) = _ := h00
        simp only [Nat.zero_mul] at this
        have e0 : (a.add 0).add 0 = a.add 0 := rfl
        rw [e0] at this
        rw [this]; rfl) (by
        have : w.cell? ((a.add (0 * 5)).add 0) = _ := h00
        simp only [Nat.zero_mul] at this
        exact this)
      subst ha
      refine ⟨hg, g, off, rfl, fun j u hu => ?_⟩
      have hj : j < 5 := by have := (List.getElem?_eq_some_iff.1 hu).1; simpa [ActM.cells] using this
      have := hat (i := j) hj
      rw [Addr.add_mid, Addr.add_mid] at this
      rw [this, hu]
    · rw [List.getElem?_eq_none (by simp; omega)] at ho
      cases ho
set_option maxRecDepth 100000 in
/-- One act, handed over itself. -/
theorem open_act_arg {r : Reach} {b0 : Nat} {v : Value} {d : DataW H} {p : List MemPlace} (hv : Value.okWide Try.prog w r b0 27 v) (h : DataW.Trod enc Try.prog w base (fun _ => true) held 27 v d p) :
    ∃ o : ActM, v = .agg o.cells.toArray ∧ o.good := by
  obtain ⟨cs, rfl, hs⟩ := okWide_str Try.underlying27 hv
  obtain ⟨fuel, hf⟩ := h
  obtain ⟨o, ho, hg⟩ := open_act hf
  refine ⟨o, ?_, hg⟩
  have : cs.toList = o.cells := by simpa [Value.cells] using ho
  rw [← this]
end
end Go.Proofs.Ytmcohbppeabmgaa

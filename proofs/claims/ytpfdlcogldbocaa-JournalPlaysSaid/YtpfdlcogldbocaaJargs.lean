/-
  The arguments of the laws on journals: a region, two operations in an array, lists of bytes. Condition: the data are read as the arguments' reader reads them.
-/
import Derived.Test.YtpfdlcogldbocaaJnil
import Derived.Lay
import Derived.SizedLaws
import Derived.Lib.SmallJoins
namespace Go.Proofs.Ytpfdlcogldbocaa
open Go.ChangeShapes Go.WideShapes Go.ChangeAt Go.ChangeMaps Go.RowKit Go.Deep Go.Maps

set_option maxRecDepth 100000 in
theorem own_none : ownKnob Try.prog.godebug = none := by kernel_rfl
set_option maxRecDepth 100000 in
theorem laid_out : laidOutB Try.prog = true := by kernel_rfl

section
variable {H : Type} {enc : TypeId × Value → H} {w : World} {base : Nat} {held : Bool}
set_option maxRecDepth 100000 in
theorem cells_region : Try.prog.cellsOf 23 = 2 := by kernel_rfl
set_option maxRecDepth 100000 in
theorem cells_two : Try.prog.cellsOf 61 = 10 := by kernel_rfl

set_option maxRecDepth 100000 in
theorem open_region_arg {r : Reach} {b0 : Nat} {v : Value} {d : DataW H} {p : List MemPlace} (hv : Value.okWide Try.prog w r b0 23 v) (h : DataW.Trod enc Try.prog w base (fun _ => true) held 23 v d p) :
    ∃ a b : Int, v = .agg #[.int .i64 a, .int .i64 b] ∧ (Lit.int .i64 a).wf = true ∧ (Lit.int .i64 b).wf = true := by
  obtain ⟨cs, rfl, _⟩ := okWide_struct Try.underlying23 hv
  obtain ⟨fuel, hf⟩ := h
  obtain ⟨xs, n, _, _, hl, hx, hg⟩ := DataW.trod_struct Try.underlying23 hf
  rw [cells_region] at hl
  obtain ⟨c0, c1, rfl⟩ := Joins.array2 (show cs.size = 2 by simpa [Value.cells] using hl)
  match xs, hx with
  | [x0, x1], _ =>
    have f0 : DataW.trod enc Try.prog w base (fun _ => true) held n 3 (([c0, c1].drop 0).take (Try.prog.cellsOf 3)) = some x0 := hg 0 _ rfl
    rw [cells_int] at f0
    have f1 : DataW.trod enc Try.prog w base (fun _ => true) held n 3 (([c0, c1].drop 1).take (Try.prog.cellsOf 3)) = some x1 := hg 1 _ rfl
    rw [cells_int] at f1
    obtain ⟨a, rfl, wa⟩ := open_num (x := x0) f0
    obtain ⟨b, rfl, wb⟩ := open_num (x := x1) f1
    exact ⟨a, b, rfl, wa, wb⟩

theorem okWide_arr {P : Program} {r : Reach} {b0 : Nat} {t e : TypeId} {n : Nat} {v : Value} (ht : P.underlying t = some (.array n e)) (h : Value.okWide P w r b0 t v) : ∃ cs, v = .agg cs ∧ cs.size = P.cellsOf t := by
  simp only [Value.okWide, ht] at h
  obtain ⟨cs, h1, h2, _⟩ := h
  exact ⟨cs, h1, h2⟩

set_option maxRecDepth 100000 in
theorem open_two_arg {r : Reach} {b0 : Nat} {v : Value} {d : DataW H} {p : List MemPlace} (hv : Value.okWide Try.prog w r b0 61 v) (h : DataW.Trod enc Try.prog w base (fun _ => true) held 61 v d p) :
    ∃ o1 o2 : OpM, v = .agg (o1.cells ++ o2.cells).toArray ∧ o1.good w ∧ o2.good w := by
  obtain ⟨cs, rfl, hs⟩ := okWide_arr Try.underlying61 hv
  rw [cells_two] at hs
  obtain ⟨fuel, hf⟩ := h
  obtain ⟨xs, m, _, _, _, hn, hel⟩ := DataW.trod_array Try.underlying61 hf
  have h0 := hel 0 (by omega)
  have h1 := hel 1 (by omega)
  rw [cells_op] at h0 h1
  match xs, hn with
  | [x0, x1], _ =>
    obtain ⟨o1, e1, g1⟩ := open_op (x := x0) h0
    obtain ⟨o2, e2, g2⟩ := open_op (x := x1) h1
    refine ⟨o1, o2, ?_, g1, g2⟩
    rw [← e1, ← e2]
    congr 1
    apply Array.ext'
    simp only [Value.cells, Nat.zero_mul, List.drop_zero, Nat.one_mul]
    show cs.toList = cs.toList.take 5 ++ (cs.toList.drop 5).take 5
    rw [List.take_of_length_le (l := cs.toList.drop 5) (by rw [List.length_drop, Array.length_toList]; omega), List.take_append_drop]

set_option maxRecDepth 100000 in
theorem bytesOf_u8 : Try.prog.bytesOf 5 = 1 := by kernel_rfl
set_option maxRecDepth 100000 in
theorem bytes_sized {fuel : Nat} {A : Option Addr} {len cap : Nat} {x : DataW H × List MemPlace} (h : DataW.trod enc Try.prog w base (fun _ => true) held fuel 39 [.slice A len cap] = some x) {R : Nat} (hR : ∀ m ∈ x.1.weights Try.prog 39, m ≤ R) : len ≤ R := by
  obtain ⟨d, ps⟩ := x
  have hl := Go.Joins.sliceLen_trod Try.underlying39 h
  cases d with
  | slice el sp =>
    have h1 := hR ((el.length + sp.length) * Try.prog.bytesOf 5) (by simp [DataW.weights, Try.underlying39])
    rw [bytesOf_u8, Nat.mul_one] at h1
    have h2 : el.length = len := hl
    omega
  | _ =>
    have h2 : 0 = len := hl
    omega
set_option maxRecDepth 100000 in
theorem open_bytes_sized {r : Reach} {b0 : Nat} {v : Value} {d : DataW H} {p : List MemPlace} (hv : Value.okWide Try.prog w r b0 39 v) (h : DataW.Trod enc Try.prog w base (fun _ => true) held 39 v d p) :
    ∃ A l cap, v = .slice A l.length cap ∧ BytesAt w A l ∧ ∀ R, (∀ m ∈ d.weights Try.prog 39, m ≤ R) → l.length ≤ R := by
  obtain ⟨a0, len0, cap0, rfl⟩ := okWide_slice Try.underlying39 hv
  obtain ⟨fuel, hf⟩ := h
  obtain ⟨A, l, cap, e, hb, _, _⟩ := open_bytes (v := .slice a0 len0 cap0) (x := (d, p)) (by simpa [Value.cells] using hf)
  have hf' : DataW.trod enc Try.prog w base (fun _ => true) held fuel 39 [.slice A l.length cap] = some (d, p) := by
    rw [← e]
    simpa [Value.cells] using hf
  exact ⟨A, l, cap, e, hb, fun R hR => bytes_sized (x := (d, p)) hf' hR⟩

set_option maxRecDepth 100000 in
theorem open_rows {r : Reach} {b0 : Nat} {v : Value} {d : DataW H} {p : List MemPlace} (hv : Value.okWide Try.prog w r b0 49 v) (h : DataW.Trod enc Try.prog w base (fun _ => true) held 49 v d p) :
    ∃ A ls cap, v = .slice A ls.length cap ∧ RowsAt w A ls ∧ ls.length ≤ maxLen ∧ ∀ l ∈ ls, l.length ≤ maxLen := by
  obtain ⟨a0, len0, cap0, rfl⟩ := okWide_slice Try.underlying49 hv
  obtain ⟨fuel, hf⟩ := h
  rcases open_slice Try.underlying49 hf with ⟨hcs, _⟩ | ⟨a, len, cap, m, n, D, Pl, hcs, _, hl, hm, hmm, _, hi⟩
  · refine ⟨none, [], 0, by simpa [Value.cells] using hcs, fun i o ho => by simp at ho, by unfold maxLen; simp, fun l hl => by cases hl⟩
  · have hmm2 : m = cap := by simpa using hmm
    subst hmm2
    clear hmm
    rw [cells_bytes] at hi
    have key : ∀ i, i < m → ∃ l : List UInt8, l.length ≤ maxLen ∧ ∃ B c, w.cells? base (a.add (i * 1)) 1 = some [.slice B l.length c] ∧ BytesAt w B l := fun i him => by
      obtain ⟨cs, h1, h2⟩ := hi i him
      obtain ⟨x, rfl⟩ : ∃ x, cs = [x] := by
        obtain ⟨_, hcl, _⟩ := World.cells?_some h1
        match cs, hcl with
        | [x], _ => exact ⟨x, rfl⟩
      obtain ⟨B, l, c, rfl, hb, hlc, hcm⟩ := open_bytes (x := (D i, Pl i)) h2
      exact ⟨l, by omega, B, c, h1, hb⟩
    obtain ⟨F, hF⟩ := choose_lt key
    have hv : Value.slice a0 len0 cap0 = .slice (some a) len m := by simpa [Value.cells] using hcs
    refine ⟨some a, (List.range len).map F, m, by rw [hv]; simp, ?_, by simp; omega, ?_⟩
    · intro i l ho
      rw [List.getElem?_map] at ho
      by_cases hil : i < len
      · rw [List.getElem?_range hil] at ho
        simp only [Option.map_some, Option.some.injEq] at ho
        obtain ⟨_, B, c, hc, hb⟩ := hF i (by omega)
        rw [ho] at hc hb
        obtain ⟨_, _, hat⟩ := World.cells?_some hc
        obtain ⟨_, B0, c0, hc0, _⟩ := hF 0 (by omega)
        obtain ⟨_, _, hat0⟩ := World.cells?_some hc0
        have h00 := hat0 (i := 0) (by omega)
        obtain ⟨g, off, ha, _⟩ := plain_addr (w := w) (a := a) (i := 0) (v := .slice B0 (F 0).length c0) (fun j hj => by
          obtain rfl : j = 0 := by omega
          have : w.cell? ((a.add (0 * 1)).add 0) = _ := h00
          simp only [Nat.zero_mul] at this
          have e0 : (a.add 0).add 0 = a.add 0 := rfl
          rw [e0] at this
          rw [this]; rfl) (by
          have : w.cell? ((a.add (0 * 1)).add 0) = _ := h00
          simp only [Nat.zero_mul] at this
          exact this)
        subst ha
        refine ⟨g, off, B, c, rfl, ?_, hb⟩
        have := hat (i := 0) (by omega)
        rw [Addr.add_mid, Addr.add_mid, Nat.mul_one, Nat.add_zero] at this
        rw [this]
        rfl
      · rw [List.getElem?_eq_none (by simp; omega)] at ho
        cases ho
    · intro l hl
      obtain ⟨i, hil, rfl⟩ := List.mem_map.1 hl
      have hil' : i < len := by simpa using hil
      exact (hF i (by omega)).1
end
end Go.Proofs.Ytpfdlcogldbocaa

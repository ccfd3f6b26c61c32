/-
  Arrays of two whole numbers, of two strings, among a call's arguments: taken apart and put together again. Conditions: the array types are as named.
-/
import Derived.ProofKit
import Derived.OpenShut
import Derived.ShutString
import Derived.Lib.SmallJoins
namespace Go.Proofs.YtcbgbicdfpkikaaGreatDoor
open Go Go.ChangeShapes Go.WideShapes Go.ChangeMaps

section
variable {H : Type} {enc : TypeId × Value → H} {P : Program} {w : World} {base : Nat} {sp : Nat → Bool} {held : Bool}
theorem okWide_arr {r : Reach} {b0 : Nat} {t e : TypeId} {n : Nat} {v : Value} (ht : P.underlying t = some (.array n e)) (h : Value.okWide P w r b0 t v) : ∃ cs, v = .agg cs ∧ cs.size = P.cellsOf t := by
  simp only [Value.okWide, ht] at h
  obtain ⟨cs, h1, h2, _⟩ := h
  exact ⟨cs, h1, h2⟩

theorem trod_int1 {fuel : Nat} {t : TypeId} {k : IntKind} {c : Value} {y : DataW H × List MemPlace} (ht : P.underlying t = some (.int k)) (h : DataW.trod enc P w base sp held fuel t [c] = some y) :
    ∃ b, c = .int k b ∧ y = (.lit (.int k b), []) ∧ (Lit.int k b).wf = true := by
  cases fuel with
  | zero => simp [DataW.trod] at h
  | succ m =>
    unfold DataW.trod at h
    rw [ht] at h
    cases c <;> simp at h
    rename_i k' b
    obtain ⟨⟨rfl, hw⟩, rfl⟩ := h
    exact ⟨b, rfl, rfl, hw⟩

theorem trod_arr2 {fuel : Nat} {t e : TypeId} {c0 c1 : Value} {z : DataW H × List MemPlace} (ht : P.underlying t = some (.array 2 e)) (hce : P.cellsOf e = 1) (h : DataW.trod enc P w base sp held fuel t [c0, c1] = some z) :
    ∃ y0 y1 n, z = (.agg [y0.1, y1.1], y0.2 ++ y1.2) ∧ DataW.trod enc P w base sp held n e [c0] = some y0 ∧ DataW.trod enc P w base sp held n e [c1] = some y1 := by
  obtain ⟨xs, m, _, rfl, _, hn, hel⟩ := DataW.trod_array ht h
  have h0 := hel 0 (by omega)
  have h1 := hel 1 (by omega)
  match xs, hn with
  | [y0, y1], _ => exact ⟨y0, y1, m, by simp, by simpa [hce] using h0, by simpa [hce] using h1⟩
theorem trod_arr2_mk {n : Nat} {t e : TypeId} {c0 c1 : Value} {y0 y1 : DataW H × List MemPlace} (ht : P.underlying t = some (.array 2 e)) (hce : P.cellsOf e = 1) (hct : P.cellsOf t = 2)
    (h0 : DataW.trod enc P w base sp held n e [c0] = some y0) (h1 : DataW.trod enc P w base sp held n e [c1] = some y1) : DataW.trod enc P w base sp held (n + 1) t [c0, c1] = some (.agg [y0.1, y1.1], y0.2 ++ y1.2) := by
  have r2 : List.range 2 = [0, 1] := rfl
  unfold DataW.trod
  rw [ht]
  simp [hce, hct, r2, h0, h1]
theorem trod_int1_mk {t : TypeId} {k : IntKind} {b : Int} (n : Nat) (ht : P.underlying t = some (.int k)) (hw : (Lit.int k b).wf = true) : DataW.trod enc P w base sp held (n + 1) t [.int k b] = some (.lit (.int k b), []) := by
  unfold DataW.trod; rw [ht]; simp [hw]

theorem open_i2 {r : Reach} {b0 : Nat} {t e : TypeId} {v : Value} {d : DataW H} {p : List MemPlace} (ht : P.underlying t = some (.array 2 e)) (he : P.underlying e = some (.int .i64)) (hce : P.cellsOf e = 1) (hct : P.cellsOf t = 2)
    (hv : Value.okWide P w r b0 t v) (h : DataW.Trod enc P w base sp held t v d p) :
    ∃ x y, v = .agg #[.int .i64 x, .int .i64 y] ∧ d = .agg [.lit (.int .i64 x), .lit (.int .i64 y)] ∧ p = [] ∧ (Lit.int .i64 x).wf = true ∧ (Lit.int .i64 y).wf = true := by
  obtain ⟨cs, rfl, hs⟩ := okWide_arr ht hv
  obtain ⟨c0, c1, rfl⟩ := Joins.array2 (hs.trans hct)
  obtain ⟨fuel, hf⟩ := h
  obtain ⟨y0, y1, n, hz, h0, h1⟩ := trod_arr2 ht hce (by simpa [Value.cells] using hf)
  obtain ⟨x, rfl, rfl, wx⟩ := trod_int1 he h0
  obtain ⟨y, rfl, rfl, wy⟩ := trod_int1 he h1
  simp only [Prod.mk.injEq] at hz
  exact ⟨x, y, rfl, hz.1, hz.2, wx, wy⟩
theorem shut_i2 {t e : TypeId} {x y : Int} (ht : P.underlying t = some (.array 2 e)) (he : P.underlying e = some (.int .i64)) (hce : P.cellsOf e = 1) (hct : P.cellsOf t = 2) (wx : (Lit.int .i64 x).wf = true) (wy : (Lit.int .i64 y).wf = true) :
    DataW.Trod enc P w base sp held t (.agg #[.int .i64 x, .int .i64 y]) (.agg [.lit (.int .i64 x), .lit (.int .i64 y)]) [] :=
  ⟨2, trod_arr2_mk ht hce hct (trod_int1_mk 0 he wx) (trod_int1_mk 0 he wy)⟩

theorem trod_str1 {fuel : Nat} {t : TypeId} {c : Value} {y : DataW H × List MemPlace} (ht : P.underlying t = some .string) (h : DataW.trod enc P w base sp held fuel t [c] = some y) :
    ∃ s : ByteArray, c = .string s ∧ y = (.lit (.string s.data.toList), []) ∧ s.size ≤ maxLen := by
  obtain ⟨s, e, hx, hs⟩ := DataW.trod_string ht h
  exact ⟨s, by simpa using e, hx, hs⟩
theorem trod_str1_mk {t : TypeId} {s : ByteArray} (n : Nat) (ht : P.underlying t = some .string) (hs : s.size ≤ maxLen) : DataW.trod enc P w base sp held (n + 1) t [.string s] = some (.lit (.string s.data.toList), []) := by
  simp [DataW.trod, ht, hs]
theorem open_s2 {r : Reach} {b0 : Nat} {t e : TypeId} {v : Value} {d : DataW H} {p : List MemPlace} (ht : P.underlying t = some (.array 2 e)) (he : P.underlying e = some .string) (hce : P.cellsOf e = 1) (hct : P.cellsOf t = 2)
    (hv : Value.okWide P w r b0 t v) (h : DataW.Trod enc P w base sp held t v d p) :
    ∃ x y : ByteArray, v = .agg #[.string x, .string y] ∧ d = .agg [.lit (.string x.data.toList), .lit (.string y.data.toList)] ∧ p = [] ∧ x.size ≤ maxLen ∧ y.size ≤ maxLen := by
  obtain ⟨cs, rfl, hs⟩ := okWide_arr ht hv
  obtain ⟨c0, c1, rfl⟩ := Joins.array2 (hs.trans hct)
  obtain ⟨fuel, hf⟩ := h
  obtain ⟨y0, y1, n, hz, h0, h1⟩ := trod_arr2 ht hce (by simpa [Value.cells] using hf)
  obtain ⟨x, rfl, rfl, wx⟩ := trod_str1 he h0
  obtain ⟨y, rfl, rfl, wy⟩ := trod_str1 he h1
  simp only [Prod.mk.injEq] at hz
  exact ⟨x, y, rfl, hz.1, hz.2, wx, wy⟩
theorem shut_s2 {t e : TypeId} {x y : ByteArray} (ht : P.underlying t = some (.array 2 e)) (he : P.underlying e = some .string) (hce : P.cellsOf e = 1) (hct : P.cellsOf t = 2) (wx : x.size ≤ maxLen) (wy : y.size ≤ maxLen) :
    DataW.Trod enc P w base sp held t (.agg #[.string x, .string y]) (.agg [.lit (.string x.data.toList), .lit (.string y.data.toList)]) [] :=
  ⟨2, trod_arr2_mk ht hce hct (trod_str1_mk 0 he wx) (trod_str1_mk 0 he wy)⟩
end
end Go.Proofs.YtcbgbicdfpkikaaGreatDoor

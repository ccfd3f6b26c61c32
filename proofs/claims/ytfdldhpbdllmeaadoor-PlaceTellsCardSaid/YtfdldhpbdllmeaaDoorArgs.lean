/-
  Arrays of floats and of integers among a call's arguments: how they read as data, taken apart and put together again. Conditions: the array types are as named.
-/
import Derived.ProofKit
import Derived.OpenShut
import Derived.Lib.SmallJoins
namespace Go.Proofs.YtfdldhpbdllmeaaDoor
open Go Go.ChangeShapes Go.WideShapes Go.ChangeMaps

section
variable {H : Type} {enc : TypeId × Value → H} {P : Program} {w : World} {base : Nat} {sp : Nat → Bool} {held : Bool}

theorem okWide_arr {r : Reach} {b0 : Nat} {t e : TypeId} {n : Nat} {v : Value} (ht : P.underlying t = some (.array n e)) (h : Value.okWide P w r b0 t v) : ∃ cs, v = .agg cs ∧ cs.size = P.cellsOf t := by
  simp only [Value.okWide, ht] at h
  obtain ⟨cs, h1, h2, _⟩ := h
  exact ⟨cs, h1, h2⟩

theorem trod_float1 {fuel : Nat} {t : TypeId} {k : FloatKind} {c : Value} {y : DataW H × List MemPlace} (ht : P.underlying t = some (.float k)) (h : DataW.trod enc P w base sp held fuel t [c] = some y) :
    ∃ b, c = .float k b ∧ y = (.lit (.float k b), []) ∧ (Lit.float k b).wf = true := by
  cases fuel with
  | zero => simp [DataW.trod] at h
  | succ m =>
    unfold DataW.trod at h
    rw [ht] at h
    cases c <;> simp at h
    rename_i k' b
    obtain ⟨⟨rfl, hw⟩, rfl⟩ := h
    exact ⟨b, rfl, rfl, hw⟩
theorem trod_int1 {fuel : Nat} {t : TypeId} {k : IntKind} {c : Value} {y : DataW H × List MemPlace} (ht : P.underlying t = some (.int k)) (h : DataW.trod enc P w base sp held fuel t [c] = some y) :
    ∃ b, c = .int k b ∧ y = (.lit (.int k b), []) ∧ (Lit.int k b).wf = true := by
  cases fuel with
  | zero => simp [DataW.trod] at h
  | succ m =>
    unfold DataW.trod at h
    rw [ht] at h
    cases c <;> simp at h
    rename_i k' b
    obtain ⟨⟨rfl, hw⟩, rfl⟩ := h
    exact ⟨b, rfl, rfl, hw⟩

theorem trod_arr2 {fuel : Nat} {t e : TypeId} {c0 c1 : Value} {z : DataW H × List MemPlace} (ht : P.underlying t = some (.array 2 e)) (hce : P.cellsOf e = 1) (h : DataW.trod enc P w base sp held fuel t [c0, c1] = some z) :
    ∃ y0 y1 n, z = (.agg [y0.1, y1.1], y0.2 ++ y1.2) ∧ DataW.trod enc P w base sp held n e [c0] = some y0 ∧ DataW.trod enc P w base sp held n e [c1] = some y1 := by
  obtain ⟨xs, m, _, rfl, _, hn, hel⟩ := DataW.trod_array ht h
  have h0 := hel 0 (by omega)
  have h1 := hel 1 (by omega)
  match xs, hn with
  | [y0, y1], _ => exact ⟨y0, y1, m, by simp, by simpa [hce] using h0, by simpa [hce] using h1⟩
theorem trod_arr2_mk {n : Nat} {t e : TypeId} {c0 c1 : Value} {y0 y1 : DataW H × List MemPlace} (ht : P.underlying t = some (.array 2 e)) (hce : P.cellsOf e = 1) (hct : P.cellsOf t = 2)
    (h0 : DataW.trod enc P w base sp held n e [c0] = some y0) (h1 : DataW.trod enc P w base sp held n e [c1] = some y1) : DataW.trod enc P w base sp held (n + 1) t [c0, c1] = some (.agg [y0.1, y1.1], y0.2 ++ y1.2) := by
  have r2 : List.range 2 = [0, 1] := rfl
  unfold DataW.trod
  rw [ht]
  simp [hce, hct, r2, h0, h1]
theorem trod_float1_mk {t : TypeId} {k : FloatKind} {b : Nat} (n : Nat) (ht : P.underlying t = some (.float k)) (hw : (Lit.float k b).wf = true) : DataW.trod enc P w base sp held (n + 1) t [.float k b] = some (.lit (.float k b), []) := by
  unfold DataW.trod; rw [ht]; simp [hw]
theorem trod_int1_mk {t : TypeId} {k : IntKind} {b : Int} (n : Nat) (ht : P.underlying t = some (.int k)) (hw : (Lit.int k b).wf = true) : DataW.trod enc P w base sp held (n + 1) t [.int k b] = some (.lit (.int k b), []) := by
  unfold DataW.trod; rw [ht]; simp [hw]

theorem trod_f2 {fuel : Nat} {t e : TypeId} {c0 c1 : Value} {z : DataW H × List MemPlace} (ht : P.underlying t = some (.array 2 e)) (he : P.underlying e = some (.float .f64)) (hce : P.cellsOf e = 1) (h : DataW.trod enc P w base sp held fuel t [c0, c1] = some z) :
    ∃ x y, c0 = .float .f64 x ∧ c1 = .float .f64 y ∧ z = (.agg [.lit (.float .f64 x), .lit (.float .f64 y)], []) ∧ (Lit.float .f64 x).wf = true ∧ (Lit.float .f64 y).wf = true := by
  obtain ⟨y0, y1, n, rfl, h0, h1⟩ := trod_arr2 ht hce h
  obtain ⟨x, rfl, rfl, wx⟩ := trod_float1 he h0
  obtain ⟨y, rfl, rfl, wy⟩ := trod_float1 he h1
  exact ⟨x, y, rfl, rfl, rfl, wx, wy⟩
theorem trod_f2_mk {t e : TypeId} {x y : Nat} (n : Nat) (ht : P.underlying t = some (.array 2 e)) (he : P.underlying e = some (.float .f64)) (hce : P.cellsOf e = 1) (hct : P.cellsOf t = 2) (wx : (Lit.float .f64 x).wf = true) (wy : (Lit.float .f64 y).wf = true) :
    DataW.trod enc P w base sp held (n + 2) t [.float .f64 x, .float .f64 y] = some (.agg [.lit (.float .f64 x), .lit (.float .f64 y)], []) :=
  trod_arr2_mk ht hce hct (trod_float1_mk n he wx) (trod_float1_mk n he wy)

/-- [2]float64 -/
theorem open_f2 {r : Reach} {b0 : Nat} {t e : TypeId} {v : Value} {d : DataW H} {p : List MemPlace} (ht : P.underlying t = some (.array 2 e)) (he : P.underlying e = some (.float .f64)) (hce : P.cellsOf e = 1) (hct : P.cellsOf t = 2)
    (hv : Value.okWide P w r b0 t v) (h : DataW.Trod enc P w base sp held t v d p) :
    ∃ x y, v = .agg #[.float .f64 x, .float .f64 y] ∧ d = .agg [.lit (.float .f64 x), .lit (.float .f64 y)] ∧ p = [] ∧ (Lit.float .f64 x).wf = true ∧ (Lit.float .f64 y).wf = true := by
  obtain ⟨cs, rfl, hs⟩ := okWide_arr ht hv
  obtain ⟨c0, c1, rfl⟩ := Joins.array2 (hs.trans hct)
  obtain ⟨fuel, hf⟩ := h
  obtain ⟨x, y, rfl, rfl, hz, wx, wy⟩ := trod_f2 ht he hce (by simpa [Value.cells] using hf)
  simp only [Prod.mk.injEq] at hz
  exact ⟨x, y, rfl, hz.1, hz.2, wx, wy⟩
theorem shut_f2 {t e : TypeId} {x y : Nat} (ht : P.underlying t = some (.array 2 e)) (he : P.underlying e = some (.float .f64)) (hce : P.cellsOf e = 1) (hct : P.cellsOf t = 2) (wx : (Lit.float .f64 x).wf = true) (wy : (Lit.float .f64 y).wf = true) :
    DataW.Trod enc P w base sp held t (.agg #[.float .f64 x, .float .f64 y]) (.agg [.lit (.float .f64 x), .lit (.float .f64 y)]) [] :=
  ⟨2, trod_f2_mk 0 ht he hce hct wx wy⟩

/-- [2]int -/
theorem open_i2 {r : Reach} {b0 : Nat} {t e : TypeId} {v : Value} {d : DataW H} {p : List MemPlace} (ht : P.underlying t = some (.array 2 e)) (he : P.underlying e = some (.int .i64)) (hce : P.cellsOf e = 1) (hct : P.cellsOf t = 2)
    (hv : Value.okWide P w r b0 t v) (h : DataW.Trod enc P w base sp held t v d p) :
    ∃ x y, v = .agg #[.int .i64 x, .int .i64 y] ∧ d = .agg [.lit (.int .i64 x), .lit (.int .i64 y)] ∧ p = [] ∧ (Lit.int .i64 x).wf = true ∧ (Lit.int .i64 y).wf = true := by
  obtain ⟨cs, rfl, hs⟩ := okWide_arr ht hv
  obtain ⟨c0, c1, rfl⟩ := Joins.array2 (hs.trans hct)
  obtain ⟨fuel, hf⟩ := h
  obtain ⟨y0, y1, n, hz, h0, h1⟩ := trod_arr2 ht hce (by simpa [Value.cells] using hf)
  obtain ⟨x, rfl, rfl, wx⟩ := trod_int1 he h0
  obtain ⟨y, rfl, rfl, wy⟩ := trod_int1 he h1
  simp only [Prod.mk.injEq] at hz
  exact ⟨x, y, rfl, hz.1, hz.2, wx, wy⟩
theorem shut_i2 {t e : TypeId} {x y : Int} (ht : P.underlying t = some (.array 2 e)) (he : P.underlying e = some (.int .i64)) (hce : P.cellsOf e = 1) (hct : P.cellsOf t = 2) (wx : (Lit.int .i64 x).wf = true) (wy : (Lit.int .i64 y).wf = true) :
    DataW.Trod enc P w base sp held t (.agg #[.int .i64 x, .int .i64 y]) (.agg [.lit (.int .i64 x), .lit (.int .i64 y)]) [] :=
  ⟨2, trod_arr2_mk ht hce hct (trod_int1_mk 0 he wx) (trod_int1_mk 0 he wy)⟩

theorem array6 {α : Type} {cs : Array α} (h : cs.size = 6) : ∃ c0 c1 c2 c3 c4 c5, cs = #[c0, c1, c2, c3, c4, c5] := by
  obtain ⟨l⟩ := cs
  match l, h with
  | [c0, c1, c2, c3, c4, c5], _ => exact ⟨c0, c1, c2, c3, c4, c5, rfl⟩

/-- [3][2]float64 -/
theorem open_f32 {r : Reach} {b0 : Nat} {t u e : TypeId} {v : Value} {d : DataW H} {p : List MemPlace} (ht : P.underlying t = some (.array 3 u)) (hu : P.underlying u = some (.array 2 e)) (he : P.underlying e = some (.float .f64)) (hce : P.cellsOf e = 1) (hcu : P.cellsOf u = 2) (hct : P.cellsOf t = 6)
    (hv : Value.okWide P w r b0 t v) (h : DataW.Trod enc P w base sp held t v d p) :
    ∃ a0 a1 b0 b1 c0 c1, v = .agg #[.float .f64 a0, .float .f64 a1, .float .f64 b0, .float .f64 b1, .float .f64 c0, .float .f64 c1] ∧
      d = .agg [.agg [.lit (.float .f64 a0), .lit (.float .f64 a1)], .agg [.lit (.float .f64 b0), .lit (.float .f64 b1)], .agg [.lit (.float .f64 c0), .lit (.float .f64 c1)]] ∧ p = [] ∧
      (Lit.float .f64 a0).wf = true ∧ (Lit.float .f64 a1).wf = true ∧ (Lit.float .f64 b0).wf = true ∧ (Lit.float .f64 b1).wf = true ∧ (Lit.float .f64 c0).wf = true ∧ (Lit.float .f64 c1).wf = true := by
  obtain ⟨cs, rfl, hs⟩ := okWide_arr ht hv
  obtain ⟨k0, k1, k2, k3, k4, k5, rfl⟩ := array6 (hs.trans hct)
  obtain ⟨fuel, hf⟩ := h
  obtain ⟨xs, m, _, hz, _, hn, hel⟩ := DataW.trod_array ht hf
  have h0 := hel 0 (by omega)
  have h1 := hel 1 (by omega)
  have h2 := hel 2 (by omega)
  match xs, hn with
  | [y0, y1, y2], _ =>
    obtain ⟨a0, a1, rfl, rfl, rfl, w1, w2⟩ := trod_f2 hu he hce (show DataW.trod enc P w base sp held m u [k0, k1] = some y0 by simpa [hcu, Value.cells] using h0)
    obtain ⟨b0, b1, rfl, rfl, rfl, w3, w4⟩ := trod_f2 hu he hce (show DataW.trod enc P w base sp held m u [k2, k3] = some y1 by simpa [hcu, Value.cells] using h1)
    obtain ⟨c0, c1, rfl, rfl, rfl, w5, w6⟩ := trod_f2 hu he hce (show DataW.trod enc P w base sp held m u [k4, k5] = some y2 by simpa [hcu, Value.cells] using h2)
    simp only [Prod.mk.injEq] at hz
    exact ⟨a0, a1, b0, b1, c0, c1, rfl, hz.1, hz.2, w1, w2, w3, w4, w5, w6⟩
theorem shut_f32 {t u e : TypeId} {a0 a1 b0 b1 c0 c1 : Nat} (ht : P.underlying t = some (.array 3 u)) (hu : P.underlying u = some (.array 2 e)) (he : P.underlying e = some (.float .f64)) (hce : P.cellsOf e = 1) (hcu : P.cellsOf u = 2) (hct : P.cellsOf t = 6)
    (w1 : (Lit.float .f64 a0).wf = true) (w2 : (Lit.float .f64 a1).wf = true) (w3 : (Lit.float .f64 b0).wf = true) (w4 : (Lit.float .f64 b1).wf = true) (w5 : (Lit.float .f64 c0).wf = true) (w6 : (Lit.float .f64 c1).wf = true) :
    DataW.Trod enc P w base sp held t (.agg #[.float .f64 a0, .float .f64 a1, .float .f64 b0, .float .f64 b1, .float .f64 c0, .float .f64 c1])
      (.agg [.agg [.lit (.float .f64 a0), .lit (.float .f64 a1)], .agg [.lit (.float .f64 b0), .lit (.float .f64 b1)], .agg [.lit (.float .f64 c0), .lit (.float .f64 c1)]]) [] := by
  refine ⟨3, ?_⟩
  have r3 : List.range 3 = [0, 1, 2] := rfl
  unfold DataW.trod
  rw [ht]
  simp [hcu, hct, r3, Value.cells, trod_f2_mk 0 hu he hce hcu w1 w2, trod_f2_mk 0 hu he hce hcu w3 w4, trod_f2_mk 0 hu he hce hcu w5 w6]
end
end Go.Proofs.YtfdldhpbdllmeaaDoor

/-
  Sets, and arrays of two and of three bytes, among a call's arguments: how they read as data, taken apart and put together again. Conditions: the array types are as named.
-/
import Derived.ProofKit
import Derived.OpenShut
import Derived.Lib.SmallJoins
import Derived.Laws.IdiomArrays
import Derived.Test.YtkcijfimeidiaaaCset
namespace Go.Proofs.Ytkcijfimeidiaaa
open Go Go.ChangeShapes Go.WideShapes Go.ChangeMaps

section
variable {H : Type} {enc : TypeId × Value → H} {P : Program} {w : World} {base : Nat} {sp : Nat → Bool} {held : Bool}

theorem okWide_arr {r : Reach} {b0 : Nat} {t e : TypeId} {n : Nat} {v : Value} (ht : P.underlying t = some (.array n e)) (h : Value.okWide P w r b0 t v) : ∃ cs, v = .agg cs ∧ cs.size = P.cellsOf t := by
  simp only [Value.okWide, ht] at h
  obtain ⟨cs, h1, h2, _⟩ := h
  exact ⟨cs, h1, h2⟩
theorem trod_int1 {fuel : Nat} {t : TypeId} {k : IntKind} {c : Value} {y : DataW H × List MemPlace} (ht : P.underlying t = some (.int k)) (h : DataW.trod enc P w base sp held fuel t [c] = some y) :
    ∃ b, c = .int k b ∧ y = (.lit (.int k b), []) ∧ (Lit.int k b).wf = true := by
  cases fuel with
  | zero => simp [DataW.trod] at h
  | succ m =>
    unfold DataW.trod at h
    rw [ht] at h
    cases c <;> simp at h
    rename_i k' b
    obtain ⟨⟨rfl, hw⟩, rfl⟩ := h
    exact ⟨b, rfl, rfl, hw⟩
theorem trod_int1_mk {t : TypeId} {k : IntKind} {b : Int} (n : Nat) (ht : P.underlying t = some (.int k)) (hw : (Lit.int k b).wf = true) : DataW.trod enc P w base sp held (n + 1) t [.int k b] = some (.lit (.int k b), []) := by
  unfold DataW.trod; rw [ht]; simp [hw]
theorem wf_u64 {b : Int} (h : (Lit.int .u64 b).wf = true) : ∃ n : Nat, b = (n : Int) ∧ n < 18446744073709551616 := by
  simp [Lit.wf, IntKind.min, IntKind.max, IntKind.bits, IntKind.signed] at h
  exact ⟨b.toNat, by omega, by omega⟩
theorem wf_u8 {b : Int} (h : (Lit.int .u8 b).wf = true) : ∃ n : Nat, b = (n : Int) ∧ n < 256 := by
  simp [Lit.wf, IntKind.min, IntKind.max, IntKind.bits, IntKind.signed] at h
  exact ⟨b.toNat, by omega, by omega⟩

/-- api.Set -/
theorem open_set {r : Reach} {b0 : Nat} {t e : TypeId} {v : Value} {d : DataW H} {p : List MemPlace} (ht : P.underlying t = some (.array 4 e)) (he : P.underlying e = some (.int .u64)) (hce : P.cellsOf e = 1) (hct : P.cellsOf t = 4)
    (hv : Value.okWide P w r b0 t v) (h : DataW.Trod enc P w base sp held t v d p) : ∃ A, v = setV A ∧ OkS A ∧ p = [] ∧ ∀ (w' : World) (sp' : Nat → Bool), DataW.Trod enc P w' base sp' held t v d p := by
  obtain ⟨cs, rfl, hs⟩ := okWide_arr ht hv
  obtain ⟨l⟩ := cs
  match l, hs.trans hct with
  | [c0, c1, c2, c3], _ =>
    obtain ⟨fuel, hf⟩ := h
    obtain ⟨y0, y1, y2, y3, n, hz, h0, h1, h2, h3⟩ := trod_array4 ht hce (by simpa [Value.cells] using hf)
    obtain ⟨x0, rfl, rfl, w0⟩ := trod_int1 he h0
    obtain ⟨x1, rfl, rfl, w1⟩ := trod_int1 he h1
    obtain ⟨x2, rfl, rfl, w2⟩ := trod_int1 he h2
    obtain ⟨x3, rfl, rfl, w3⟩ := trod_int1 he h3
    simp only [Prod.mk.injEq] at hz
    obtain ⟨rfl, rfl⟩ := hz
    obtain ⟨n0, e0, l0⟩ := wf_u64 w0
    obtain ⟨n1, e1, l1⟩ := wf_u64 w1
    obtain ⟨n2, e2, l2⟩ := wf_u64 w2
    obtain ⟨n3, e3, l3⟩ := wf_u64 w3
    refine ⟨fun k => if k = 0 then n0 else if k = 1 then n1 else if k = 2 then n2 else n3, ?_, ?_, rfl, fun _ _ => ⟨2, ?_⟩⟩
    · simp [setV, e0, e1, e2, e3]
    · intro k
      dsimp only
      repeat' split
      all_goals assumption
    · have r4 : List.range 4 = [0, 1, 2, 3] := rfl
      unfold DataW.trod
      rw [ht]
      simp [hce, hct, r4, Value.cells, trod_int1_mk 0 he w0, trod_int1_mk 0 he w1, trod_int1_mk 0 he w2, trod_int1_mk 0 he w3]

/-- [3]byte -/
theorem open_u3 {r : Reach} {b0 : Nat} {t e : TypeId} {v : Value} {d : DataW H} {p : List MemPlace} (ht : P.underlying t = some (.array 3 e)) (he : P.underlying e = some (.int .u8)) (hce : P.cellsOf e = 1) (hct : P.cellsOf t = 3)
    (hv : Value.okWide P w r b0 t v) (h : DataW.Trod enc P w base sp held t v d p) : ∃ a b c : Nat, v = .agg #[.int .u8 (a : Int), .int .u8 (b : Int), .int .u8 (c : Int)] ∧ a < 256 ∧ b < 256 ∧ c < 256 ∧ p = [] ∧ ∀ (w' : World) (sp' : Nat → Bool), DataW.Trod enc P w' base sp' held t v d p := by
  obtain ⟨cs, rfl, hs⟩ := okWide_arr ht hv
  obtain ⟨l⟩ := cs
  match l, hs.trans hct with
  | [c0, c1, c2], _ =>
    obtain ⟨fuel, hf⟩ := h
    obtain ⟨y0, y1, y2, n, hz, h0, h1, h2⟩ := trod_array3 ht hce (by simpa [Value.cells] using hf)
    obtain ⟨x0, rfl, rfl, w0⟩ := trod_int1 he h0
    obtain ⟨x1, rfl, rfl, w1⟩ := trod_int1 he h1
    obtain ⟨x2, rfl, rfl, w2⟩ := trod_int1 he h2
    simp only [Prod.mk.injEq] at hz
    obtain ⟨rfl, rfl⟩ := hz
    obtain ⟨n0, e0, l0⟩ := wf_u8 w0
    obtain ⟨n1, e1, l1⟩ := wf_u8 w1
    obtain ⟨n2, e2, l2⟩ := wf_u8 w2
    refine ⟨n0, n1, n2, by rw [e0, e1, e2], l0, l1, l2, rfl, fun _ _ => ⟨2, ?_⟩⟩
    have r3 : List.range 3 = [0, 1, 2] := rfl
    unfold DataW.trod
    rw [ht]
    simp [hce, hct, r3, Value.cells, trod_int1_mk 0 he w0, trod_int1_mk 0 he w1, trod_int1_mk 0 he w2]

/-- [2]byte -/
theorem open_u2 {r : Reach} {b0 : Nat} {t e : TypeId} {v : Value} {d : DataW H} {p : List MemPlace} (ht : P.underlying t = some (.array 2 e)) (he : P.underlying e = some (.int .u8)) (hce : P.cellsOf e = 1) (hct : P.cellsOf t = 2)
    (hv : Value.okWide P w r b0 t v) (h : DataW.Trod enc P w base sp held t v d p) : ∃ a b : Nat, v = .agg #[.int .u8 (a : Int), .int .u8 (b : Int)] ∧ a < 256 ∧ b < 256 ∧ p = [] ∧ ∀ (w' : World) (sp' : Nat → Bool), DataW.Trod enc P w' base sp' held t v d p := by
  obtain ⟨cs, rfl, hs⟩ := okWide_arr ht hv
  obtain ⟨l⟩ := cs
  match l, hs.trans hct with
  | [c0, c1], _ =>
    obtain ⟨fuel, hf⟩ := h
    obtain ⟨xs, m, _, hz, _, hn, hel⟩ := DataW.trod_array ht (by simpa [Value.cells] using hf)
    have h0 := hel 0 (by omega)
    have h1 := hel 1 (by omega)
    match xs, hn with
    | [y0, y1], _ =>
      obtain ⟨x0, rfl, rfl, w0⟩ := trod_int1 he (show DataW.trod enc P w base sp held m e [c0] = some y0 by simpa [hce] using h0)
      obtain ⟨x1, rfl, rfl, w1⟩ := trod_int1 he (show DataW.trod enc P w base sp held m e [c1] = some y1 by simpa [hce] using h1)
      simp at hz
      obtain ⟨rfl, rfl⟩ := hz
      obtain ⟨n0, e0, l0⟩ := wf_u8 w0
      obtain ⟨n1, e1, l1⟩ := wf_u8 w1
      refine ⟨n0, n1, by rw [e0, e1], l0, l1, rfl, fun _ _ => ⟨2, ?_⟩⟩
      have r2 : List.range 2 = [0, 1] := rfl
      unfold DataW.trod
      rw [ht]
      simp [hce, hct, r2, Value.cells, trod_int1_mk 0 he w0, trod_int1_mk 0 he w1]
end
end Go.Proofs.Ytkcijfimeidiaaa

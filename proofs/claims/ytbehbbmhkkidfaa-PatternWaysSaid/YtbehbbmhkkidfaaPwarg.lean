/-
  A row of shapes among a call's arguments. Condition: the data are read as the arguments' reader reads them.
-/
import Derived.Test.YtbehbbmhkkidfaaPbt1
import Derived.ProofKit
import Derived.OpenShut
namespace Go.Proofs.Ytbehbbmhkkidfaa
open Go.ChangeShapes Go.WideShapes Go.ChangeAt Go.ChangeMaps Go.RowKit Go.Deep

section
variable {H : Type} {enc : TypeId × Value → H} {w : World} {held : Bool}
set_option maxRecDepth 100000 in
theorem cells_shape : Try.prog.cellsOf 56 = 5 := by kernel_rfl
set_option maxRecDepth 100000 in
theorem cells_bool1 : Try.prog.cellsOf 4 = 1 := by kernel_rfl
set_option maxRecDepth 100000 in
theorem cells_u81 : Try.prog.cellsOf 5 = 1 := by kernel_rfl
set_option maxRecDepth 100000 in
theorem cells_i641 : Try.prog.cellsOf 3 = 1 := by kernel_rfl
theorem lst5 {α : Type} {l : List α} (h : l.length = 5) : ∃ a0 a1 a2 a3 a4, l = [a0, a1, a2, a3, a4] := by
  match l, h with
  | [a0, a1, a2, a3, a4], _ => exact ⟨_, _, _, _, _, rfl⟩
theorem byte_wf {n : Int} (h : (Lit.int .u8 n).wf = true) : n = ((n.toNat : Nat) : Int) ∧ n.toNat < 256 := by
  have h2 : IntKind.u8.min = 0 := rfl
  have h3 : IntKind.u8.max = 255 := rfl
  simp [Lit.wf, h2, h3] at h
  omega
theorem int_wf {n : Int} (h : (Lit.int .i64 n).wf = true) : -9223372036854775808 ≤ n ∧ n < 9223372036854775808 := by
  have h2 : IntKind.i64.min = -9223372036854775808 := rfl
  have h3 : IntKind.i64.max = 9223372036854775807 := rfl
  simp [Lit.wf, h2, h3] at h
  omega
theorem one_int {fuel : Nat} {t : TypeId} {k : IntKind} {v : Value} {x : DataW H × List MemPlace} (ht : Try.prog.underlying t = some (.int k)) (h : DataW.trod enc Try.prog w 0 (fun _ => true) held fuel t [v] = some x) : ∃ n, v = .int k n ∧ (Lit.int k n).wf = true := by
  obtain ⟨n, e, _, hw⟩ := DataW.trod_int ht h
  exact ⟨n, by simpa using e, hw⟩
theorem one_bool {fuel : Nat} {t : TypeId} {v : Value} {x : DataW H × List MemPlace} (ht : Try.prog.underlying t = some .bool) (h : DataW.trod enc Try.prog w 0 (fun _ => true) held fuel t [v] = some x) : ∃ b, v = .bool b := by
  cases fuel with
  | zero => simp [DataW.trod] at h
  | succ m =>
    unfold DataW.trod at h
    rw [ht] at h
    cases v <;> simp at h
    exact ⟨_, rfl⟩
set_option maxRecDepth 100000 in
theorem open_shape {fuel : Nat} {cs : List Value} {x : DataW H × List MemPlace} (h : DataW.trod enc Try.prog w 0 (fun _ => true) held fuel 56 cs = some x) : ∃ s : SM, cs = s.cells ∧ s.ok := by
  obtain ⟨xs, n, _, _, hl, hn, hf⟩ := DataW.trod_struct Try.underlying56 h
  rw [cells_shape] at hl
  obtain ⟨c0, c1, c2, c3, c4, rfl⟩ := lst5 hl
  obtain ⟨y0, y1, y2, y3, y4, rfl⟩ := lst5 hn
  have f0 : DataW.trod enc Try.prog w 0 (fun _ => true) held n 4 (([c0, c1, c2, c3, c4].drop 0).take (Try.prog.cellsOf 4)) = [y0, y1, y2, y3, y4][0]? := hf 0 _ rfl
  have f1 : DataW.trod enc Try.prog w 0 (fun _ => true) held n 5 (([c0, c1, c2, c3, c4].drop 1).take (Try.prog.cellsOf 5)) = [y0, y1, y2, y3, y4][1]? := hf 1 _ rfl
  have f2 : DataW.trod enc Try.prog w 0 (fun _ => true) held n 4 (([c0, c1, c2, c3, c4].drop 2).take (Try.prog.cellsOf 4)) = [y0, y1, y2, y3, y4][2]? := hf 2 _ rfl
  have f3 : DataW.trod enc Try.prog w 0 (fun _ => true) held n 3 (([c0, c1, c2, c3, c4].drop 3).take (Try.prog.cellsOf 3)) = [y0, y1, y2, y3, y4][3]? := hf 3 _ rfl
  have f4 : DataW.trod enc Try.prog w 0 (fun _ => true) held n 3 (([c0, c1, c2, c3, c4].drop 4).take (Try.prog.cellsOf 3)) = [y0, y1, y2, y3, y4][4]? := hf 4 _ rfl
  rw [cells_bool1] at f0 f2
  rw [cells_u81] at f1
  rw [cells_i641] at f3 f4
  obtain ⟨g, rfl⟩ := one_bool Try.underlying4 (v := c0) (x := y0) f0
  obtain ⟨c, rfl, wc⟩ := one_int Try.underlying5 (v := c1) (x := y1) f1
  obtain ⟨tm, rfl⟩ := one_bool Try.underlying4 (v := c2) (x := y2) f2
  obtain ⟨lo, rfl, wl⟩ := one_int Try.underlying3 (v := c3) (x := y3) f3
  obtain ⟨hi, rfl, wh⟩ := one_int Try.underlying3 (v := c4) (x := y4) f4
  obtain ⟨hc, hc2⟩ := byte_wf wc
  refine ⟨⟨g, c.toNat, tm, lo, hi⟩, ?_, hc2, (int_wf wl).1, (int_wf wl).2, (int_wf wh).2⟩
  unfold SM.cells
  rw [← hc]
theorem list_fam {α : Type} {n : Nat} {P : Nat → α → Prop} (h : ∀ i, i < n → ∃ p, P i p) : ∃ l : List α, l.length = n ∧ ∀ i p, l[i]? = some p → P i p := by
  induction n with
  | zero => exact ⟨[], rfl, fun i p h => by simp at h⟩
  | succ n ih =>
    obtain ⟨l, hl, hp⟩ := ih fun i hi => h i (by omega)
    obtain ⟨p, hpn⟩ := h n (by omega)
    refine ⟨l ++ [p], by simp [hl], fun i q hq => ?_⟩
    by_cases hi : i < l.length
    · rw [List.getElem?_append_left hi] at hq
      exact hp i q hq
    · have : i < (l ++ [p]).length := (List.getElem?_eq_some_iff.1 hq).1
      simp at this
      have e : i = n := by omega
      subst e
      rw [List.getElem?_append_right (by omega), hl, Nat.sub_self] at hq
      simp at hq
      subst hq
      exact hpn
theorem length_smV : ∀ xs : List SM, (smV xs).length = xs.length * 5
  | [] => rfl
  | f :: r => by
    have := length_smV r
    simp only [smV, List.flatMap_cons, List.length_append, List.length_cons] at this ⊢
    simp only [SM.cells, List.length_cons, List.length_nil]
    omega
theorem raw_shapes {g o : Nat} {xs : List SM} (h : ∀ (i : Nat) (x : SM), xs[i]? = some x → ∀ (j : Nat) (v : Value), x.cells[j]? = some v → w.cell? ⟨g, o + i * 5 + j, none⟩ = some v) : w.rangeAt g o (smV xs) := by
  intro j v hv
  have hl := (List.getElem?_eq_some_iff.1 hv).1
  rw [length_smV] at hl
  have hi : j / 5 < xs.length := by omega
  have hx : xs[j / 5]? = some xs[j / 5] := List.getElem?_eq_getElem hi
  have hj : j % 5 < (xs[j / 5]).cells.length := by
    show j % 5 < 5
    omega
  have hc : (xs[j / 5]).cells[j % 5]? = some ((xs[j / 5]).cells[j % 5]) := List.getElem?_eq_getElem hj
  have h1 := h (j / 5) _ hx (j % 5) _ hc
  have h2 := smV_at (j / 5) _ hx (j % 5) _ hc
  have e : j / 5 * 5 + j % 5 = j := by omega
  rw [e, hv] at h2
  rw [Nat.add_assoc, e] at h1
  rw [h1, ← h2]
theorem open_shapes {r : Reach} {b0 : Nat} {v : Value} {d : DataW H} {p : List MemPlace} (hv : Value.okWide Try.prog w r b0 36 v) (h : DataW.Trod enc Try.prog w 0 (fun _ => true) held 36 v d p) :
    ∃ (A : Option Addr) (ls : List SM) (cp : Nat), v = .slice A ls.length cp ∧ RawAt w A (smV ls) ∧ ∀ s ∈ ls, s.ok := by
  obtain ⟨a0, len0, cap0, rfl⟩ := okWide_slice Try.underlying36 hv
  obtain ⟨fuel, hf⟩ := h
  rcases DataW.trod_slice Try.underlying36 hf with ⟨e, _⟩ | ⟨a, len, cap, elems, rest, m, hm, e, _, _, hlc, _, hel, hat, _, _⟩
  · have e8 : Value.slice a0 len0 cap0 = .slice none 0 0 := by simpa [Value.cells] using e
    rw [e8]
    exact ⟨none, [], 0, rfl, .inl rfl, fun s hs => by cases hs⟩
  · have e8 : Value.slice a0 len0 cap0 = .slice (some a) len cap := by simpa [Value.cells] using e
    rw [e8]
    rw [cells_shape] at hat
    obtain ⟨l, hll, hlp⟩ := list_fam (n := len) (P := fun i (s : SM) => w.cells? 0 (a.add (i * 5)) 5 = some s.cells ∧ s.ok) (fun i hi => by
      have h1 := hat i hi
      rw [List.getElem?_eq_getElem (by omega)] at h1
      obtain ⟨cs', h2, h3⟩ := Option.bind_eq_some_iff.1 h1
      obtain ⟨s, rfl, hs⟩ := open_shape h3
      exact ⟨s, h2, hs⟩)
    refine ⟨some a, l, cap, by rw [hll], ?_, fun s hs => ?_⟩
    · rcases Nat.eq_zero_or_pos len with h0 | h0
      · left
        have : l = [] := List.length_eq_zero_iff.1 (by omega)
        rw [this]
        rfl
      · right
        obtain ⟨p0, hp0⟩ : ∃ p, l[0]? = some p := ⟨l[0]'(by omega), List.getElem?_eq_getElem _⟩
        obtain ⟨g, o, sp⟩ := a
        have h1 := (World.cells?_some (hlp 0 p0 hp0).1).2.2 0 (by omega)
        have hsp : sp = none := by
          cases sp with
          | none => rfl
          | some s =>
            rw [Nat.zero_mul] at h1
            have h2 : (((⟨g, o, some s⟩ : Addr).add 0).add 0) = ⟨g, o, some s⟩ := rfl
            rw [h2] at h1
            unfold World.cell? at h1
            cases hh : w.heap[g]? with
            | none => simp [hh, SM.cells] at h1
            | some ob => cases ob <;> simp [hh, SM.cells] at h1
        subst hsp
        refine ⟨g, o, rfl, raw_shapes fun i x hx j v hv => ?_⟩
        have hj : j < 5 := (List.getElem?_eq_some_iff.1 hv).1
        have h3 := (World.cells?_some (hlp i x hx).1).2.2 j hj
        rw [hv, Addr.add_mid, Addr.add_mid] at h3
        exact h3
    · obtain ⟨i, hi, e⟩ := List.mem_iff_getElem.1 hs
      exact (hlp i s (by rw [← e]; exact List.getElem?_eq_getElem hi)).2
end
end Go.Proofs.Ytbehbbmhkkidfaa

/-
  ProgramPlain returns true for all input, and its argument reads afterwards as it read before. Conditions: none beyond the given row's.
-/
import Derived.Test.YthlkmlphbepnpaaRows
import Derived.Test.YthlkmlphbepnpaaPg16
import Derived.Test.YthlkmlphbepnpaaPg18
namespace Go.Proofs.Ythlkmlphbepnpaa
open Go.ChangeShapes Go.WideShapes Go.ChangeAt Go.ChangeMaps Go.RowKit Go.Deep Go.Maps

/-- Bytes as they lie. -/
def BytesAt (w : World) (A : Option Addr) (l : List UInt8) : Prop := ∀ i b, l[i]? = some b → ∃ g o, A = some ⟨g, o, none⟩ ∧ w.cell? ⟨g, o + i, none⟩ = some (.int .u8 (b.toNat : Int))
theorem raw_bytes {w : World} {A : Option Addr} {l : List UInt8} (h : BytesAt w A l) : RawAt w A (u8V l) := by
  cases l with
  | nil => exact .inl rfl
  | cons b r =>
    obtain ⟨g, o, rfl, _⟩ := h 0 b rfl
    refine .inr ⟨g, o, rfl, fun j v hv => ?_⟩
    unfold u8V at hv
    rw [List.getElem?_map] at hv
    cases hj : (b :: r)[j]? with
    | none => rw [hj] at hv; cases hv
    | some c =>
      rw [hj] at hv
      simp only [Option.map_some, Option.some.injEq] at hv
      obtain ⟨g', o', e, hc⟩ := h j c hj
      injection e with e
      injection e with e1 e2
      subst e1
      subst e2
      rw [hc, hv]
section
variable {H : Type} {enc : TypeId × Value → H} {w : World} {base : Nat} {held : Bool}
theorem plain_addr' {a : Addr} {i : Nat} {v : Value} (h : ∀ j, j ≤ i → (w.cell? (a.add j)).isSome = true) (hv : w.cell? (a.add i) = some v) : ∃ g o, a = ⟨g, o, none⟩ ∧ w.cell? ⟨g, o + i, none⟩ = some v := by
  obtain ⟨g, o, rfl⟩ := plain_addr (h 0 (Nat.zero_le _))
  rw [Addr.add_mid] at hv
  exact ⟨g, o, rfl, hv⟩
theorem open_bytes {fuel : Nat} {v : Value} {x : DataW H × List MemPlace} (h : DataW.trod enc Try.prog w base (fun _ => true) held fuel 54 [v] = some x) :
    ∃ A l cap, v = .slice A l.length cap ∧ BytesAt w A l ∧ l.length ≤ cap ∧ cap ≤ maxLen := by
  rcases open_ints Try.underlying54 Try.underlying5 cells_byte h with ⟨hcs, _⟩ | ⟨a, len, cap, zs, hcs, _, hl, hm, hz, _, hcell, hwz⟩
  · refine ⟨none, [], 0, by simpa using hcs, fun i b hb => by simp at hb, Nat.le_refl _, by unfold maxLen; omega⟩
  · simp only [if_true] at hz
    have hv : v = .slice (some a) len cap := by simpa using hcs
    refine ⟨some a, (zs.take len).map fun z => UInt8.ofNat z.toNat, cap, ?_, ?_, ?_, hm⟩
    · rw [hv]; simp; omega
    · intro i b hb
      rw [List.getElem?_map, List.getElem?_take] at hb
      split at hb
      · rename_i hil
        have hiz : i < zs.length := by omega
        rw [List.getElem?_eq_getElem hiz] at hb
        simp only [Option.map_some, Option.some.injEq] at hb
        have hc := hcell i hiz
        obtain ⟨g, o, rfl, hgo⟩ := plain_addr' (i := i) (fun j hj => by rw [hcell j (by omega)]; rfl) hc
        refine ⟨g, o, rfl, ?_⟩
        rw [hgo, ← hb]
        have hw := hwz zs[i] (List.getElem_mem _)
        have hr := bounds_u8 hw
        rw [List.getD_eq_getElem?_getD, List.getElem?_eq_getElem hiz]
        simp only [Option.getD_some]
        congr 2
        rw [UInt8.toNat_ofNat']
        omega
      · cases hb
    · simp; omega

theorem open_bytes_arg {r : Reach} {b0 : Nat} {v : Value} {d : DataW H} {p : List MemPlace} (hv : Value.okWide Try.prog w r b0 54 v) (h : DataW.Trod enc Try.prog w base (fun _ => true) held 54 v d p) :
    ∃ A l cap, v = .slice A l.length cap ∧ BytesAt w A l ∧ l.length ≤ cap ∧ cap ≤ maxLen := by
  obtain ⟨a0, len0, cap0, rfl⟩ := okWide_slice Try.underlying54 hv
  obtain ⟨fuel, hf⟩ := h
  obtain ⟨A, l, cap, e, rest⟩ := open_bytes (v := .slice a0 len0 cap0) (x := (d, p)) (by simpa [Value.cells] using hf)
  exact ⟨A, l, cap, e, rest⟩
end

set_option maxRecDepth 100000 in
theorem programPlain_lifted (os : Os) (started : os.Started) (H : Type) (enc : TypeId × Value → H) :
    ReturnsInHanded {} Try.checked os 7 .any (Rows.programPlainSpec.pre6 enc Try.prog Try.f7 Rows.programPlainRow.domain false) (Rows.programPlainSpec.post enc Try.prog Try.f7 false true false false) := by
  refine returnsInHanded_of_change (C := Try.checked) own_none started (by kernel_rfl) Try.func7
    (ChangeSpec.witness6 (enc := enc) (C := Try.checked) false ⟨#[], #[.slice none 0 0], []⟩ 8 (by kernel_rfl) (by kernel_rfl) (by kernel_rfl) (by kernel_rfl)) ?_
  intro W base args ds gs before hval0 hW _ _
  have hval : ∀ (j : Nat) t v, Try.f7.params[j]? = some t → args[j]? = some v → Value.okWide Try.prog W .any base t v := hval0
  have hW' := hW
  obtain ⟨p, q, hA0, hV, rfl, _, _⟩ := hW
  have hA : DataW.TrodAll enc Try.prog W 0 (fun _ => true) true Try.f7.params.toList args.toList ds p := hA0
  rw [Try.params7] at hA hval
  obtain ⟨v0, d0, rfl, rfl, h0⟩ := trodAll_one hA
  obtain ⟨rfl, rfl⟩ := trodVars_none hV
  have h0k := h0
  obtain ⟨S0, os0, cap0, rfl, hr0, _, _⟩ := open_bytes_arg (hval 0 54 v0 rfl rfl) h0
  clear hA0 hval0
  simp only [List.append_nil] at hW'
  have hlt : ∀ x ∈ p, x.block < W.heap.size := fun x hx => by simpa using hW'.lt x hx
  refine (plain_is (cl := cap0) (raw_bytes hr0)).mono fun e W' ⟨he, hb⟩ => ?_
  subst he
  exact ⟨_, rfl, _, _, _, [], p, [], hW', trodAll_mk1 (shut_bool Try.underlying4 _), trodAll_mk1 (Below.trod laid_out (by kernel_rfl) (of_decide_eq_true (by kernel_rfl)) h0k hb hlt), rfl, hb.frame _, fun h => by cases h⟩

/-- ProgramPlain. -/
theorem programPlain_said : Rows.ProgramPlainSaid :=
  OpenClaim.holds_of_wide 7 Try.f7 rfl rfl rfl rfl rfl rfl rfl ⟨rfl, rfl, rfl, rfl, rfl⟩ rfl rfl rfl rfl rfl (by kernel_rfl) Try.func7 (by kernel_rfl)
    (of_decide_eq_true (by kernel_rfl)) (by unfold Func.isWrapper; first | (rw [if_pos (by decide +kernel)]; kernel_rfl) | (rw [if_neg (by decide +kernel)]; exact ⟨rfl, rfl⟩))
    (fun os started H enc _ => programPlain_lifted os started H enc)
end Go.Proofs.Ythlkmlphbepnpaa

/-
  RecordRow returns true for all lists of bytes and all bytes, and each argument reads afterwards as it read before. Conditions: none beyond the given row's.
-/
import Derived.Test.YthdenpdhckichaaRow
import Derived.Lay
import Derived.SizedLaws
namespace Go.Proofs.Ythdenpdhckichaa
open Go.ChangeShapes Go.WideShapes Go.ChangeAt Go.ChangeMaps Go.RowKit Go.Deep

theorem own_none : ownKnob Try.prog.godebug = none := by kernel_rfl
theorem laid_out : laidOutB Try.prog = true := by kernel_rfl

section
variable {H : Type} {enc : TypeId × Value → H} {w : World} {base : Nat} {held : Bool}
theorem bytesOf_u8 : Try.prog.bytesOf 5 = 1 := by kernel_rfl
theorem cells_bytes : Try.prog.cellsOf 22 = 1 := by kernel_rfl

theorem bytes_sized {fuel : Nat} {A : Option Addr} {len cap : Nat} {x : DataW H × List MemPlace} (h : DataW.trod enc Try.prog w base (fun _ => true) held fuel 22 [.slice A len cap] = some x) {R : Nat} (hR : ∀ m ∈ x.1.weights Try.prog 22, m ≤ R) : len ≤ R := by
  obtain ⟨d, ps⟩ := x
  have hl := Go.Joins.sliceLen_trod Try.underlying22 h
  cases d with
  | slice el sp =>
    have h1 := hR ((el.length + sp.length) * Try.prog.bytesOf 5) (by simp [DataW.weights, Try.underlying22])
    rw [bytesOf_u8, Nat.mul_one] at h1
    have h2 : el.length = len := hl
    omega
  | _ =>
    have h2 : 0 = len := hl
    omega

theorem open_bytes_sized {r : Reach} {b0 : Nat} {v : Value} {d : DataW H} {p : List MemPlace} (hv : Value.okWide Try.prog w r b0 22 v) (h : DataW.Trod enc Try.prog w base (fun _ => true) held 22 v d p) :
    ∃ A l cap, v = .slice A l.length cap ∧ BytesAt w A l ∧ ∀ R, (∀ m ∈ d.weights Try.prog 22, m ≤ R) → l.length ≤ R := by
  obtain ⟨a0, len0, cap0, rfl⟩ := okWide_slice Try.underlying22 hv
  obtain ⟨fuel, hf⟩ := h
  obtain ⟨A, l, cap, e, hb, _, _⟩ := open_bytes (v := .slice a0 len0 cap0) (x := (d, p)) (by simpa [Value.cells] using hf)
  have hf' : DataW.trod enc Try.prog w base (fun _ => true) held fuel 22 [.slice A l.length cap] = some (d, p) := by
    rw [← e]
    simpa [Value.cells] using hf
  exact ⟨A, l, cap, e, hb, fun R hR => bytes_sized (x := (d, p)) hf' hR⟩

theorem open_rows {r : Reach} {b0 : Nat} {v : Value} {d : DataW H} {p : List MemPlace} (hv : Value.okWide Try.prog w r b0 31 v) (h : DataW.Trod enc Try.prog w base (fun _ => true) held 31 v d p) :
    ∃ A ls cap, v = .slice A ls.length cap ∧ RowsAt w A ls ∧ ls.length ≤ maxLen ∧ ∀ l ∈ ls, l.length ≤ maxLen := by
  obtain ⟨a0, len0, cap0, rfl⟩ := okWide_slice Try.underlying31 hv
  obtain ⟨fuel, hf⟩ := h
  rcases open_slice Try.underlying31 hf with ⟨hcs, _⟩ | ⟨a, len, cap, m, n, D, Pl, hcs, _, hl, hm, hmm, _, hi⟩
  · refine ⟨none, [], 0, by simpa [Value.cells] using hcs, fun i o ho => by simp at ho, by unfold maxLen; simp, fun l hl => by cases hl⟩
  · have hmm2 : m = cap := by simpa using hmm
    subst hmm2
    clear hmm
    rw [cells_bytes] at hi
    have key : ∀ i, i < m → ∃ l : List UInt8, l.length ≤ maxLen ∧ ∃ B c, w.cells? base (a.add (i * 1)) 1 = some [.slice B l.length c] ∧ BytesAt w B l := fun i him => by
      obtain ⟨cs, h1, h2⟩ := hi i him
      obtain ⟨x, rfl⟩ : ∃ x, cs = [x] := by
        obtain ⟨_, hcl, _⟩ := World.cells?_some h1
        match cs, hcl with
        | [x], _ => exact ⟨x, rfl⟩
      obtain ⟨B, l, c, rfl, hb, hlc, hcm⟩ := open_bytes (x := (D i, Pl i)) h2
      exact ⟨l, by omega, B, c, h1, hb⟩
    obtain ⟨F, hF⟩ := choose_lt key
    have hv : Value.slice a0 len0 cap0 = .slice (some a) len m := by simpa [Value.cells] using hcs
    refine ⟨some a, (List.range len).map F, m, by rw [hv]; simp, ?_, by simp; omega, ?_⟩
    · intro i l ho
      rw [List.getElem?_map] at ho
      by_cases hil : i < len
      · rw [List.getElem?_range hil] at ho
        simp only [Option.map_some, Option.some.injEq] at ho
        obtain ⟨_, B, c, hc, hb⟩ := hF i (by omega)
        rw [ho] at hc hb
        obtain ⟨_, _, hat⟩ := World.cells?_some hc
        obtain ⟨_, B0, c0, hc0, _⟩ := hF 0 (by omega)
        obtain ⟨_, _, hat0⟩ := World.cells?_some hc0
        have h00 := hat0 (i := 0) (by omega)
        obtain ⟨g, off, ha, _⟩ := plain_addr (w := w) (a := a) (i := 0) (v := .slice B0 (F 0).length c0) (fun j hj => by
          obtain rfl : j = 0 := by omega
          have : w.cell? ((a.add (0 * 1)).add 0) = _ := h00
          simp only [Nat.zero_mul] at this
          have e0 : (a.add 0).add 0 = a.add 0 := rfl
          rw [e0] at this
          rw [this]; rfl) (by
          have : w.cell? ((a.add (0 * 1)).add 0) = _ := h00
          simp only [Nat.zero_mul] at this
          exact this)
        subst ha
        refine ⟨g, off, B, c, rfl, ?_, hb⟩
        have := hat (i := 0) (by omega)
        rw [Addr.add_mid, Addr.add_mid, Nat.mul_one, Nat.add_zero] at this
        rw [this]
        rfl
      · rw [List.getElem?_eq_none (by simp; omega)] at ho
        cases ho
    · intro l hl
      obtain ⟨i, hil, rfl⟩ := List.mem_map.1 hl
      have hil' : i < len := by simpa using hil
      exact (hF i (by omega)).1
end

set_option maxRecDepth 100000 in
theorem row_lifted (os : Os) (started : os.Started) (H : Type) (enc : TypeId × Value → H) :
    ReturnsInHanded {} Try.checked os 8 .any (Rows.recordRowSpec.pre6 enc Try.prog Try.f8 Rows.recordRowRow.domain false) (Rows.recordRowSpec.post enc Try.prog Try.f8 false true false false) := by
  refine returnsInHanded_of_change_sized (C := Try.checked) own_none started (by kernel_rfl) Try.func8
    (ChangeSpec.witness6 (enc := enc) (C := Try.checked) false ⟨#[], #[.slice none 0 0, .slice none 0 0], []⟩ 8 (by kernel_rfl) (by kernel_rfl) (by kernel_rfl) (by kernel_rfl)) ?_
  intro W base args ds gs before hval0 hW _ hsz0 _
  have hval : ∀ (j : Nat) t v, Try.f8.params[j]? = some t → args[j]? = some v → Value.okWide Try.prog W .any base t v := hval0
  have hW' := hW
  obtain ⟨p, q, hA0, hV, rfl, _, _⟩ := hW
  have hA : DataW.TrodAll enc Try.prog W 0 (fun _ => true) true Try.f8.params.toList args.toList ds p := hA0
  have hsz1 : (DataW.weightsEach Try.prog (Try.f8.params.toList ++ Rows.recordRowSpec.plain.varTypes Try.prog) (ds ++ gs)).all (· ≤ reachBytes) = true := hsz0
  rw [Try.params8] at hA hval hsz1
  obtain ⟨v0, v1, d0, d1, p0, p1, rfl, rfl, rfl, h0, h1⟩ := trodAll_two hA
  obtain ⟨rfl, rfl⟩ := trodVars_none hV
  have h0k := h0
  have h1k := h1
  obtain ⟨A0, ls, cap0, rfl, hr, hlen, hls⟩ := open_rows (hval 0 31 v0 rfl rfl) h0
  obtain ⟨B0, rs, cap1, rfl, hb1, hR⟩ := open_bytes_sized (hval 1 22 v1 rfl rfl) h1
  have hb47 := hR reachBytes (fun m hm => by
    have h2 := List.all_eq_true.1 hsz1 m (DataW.weights_mem_each (j := 1) (t := 22) (d := d1) rfl rfl m hm)
    simpa using h2)
  have h4 := reachBytes_lt
  clear hA0 hval0
  simp only [List.append_nil] at hW'
  have hlt : ∀ x ∈ p0 ++ p1, x.block < W.heap.size := fun x hx => by simpa using hW'.lt x hx
  refine (row_any A0 B0 ls rs cap0 cap1 W hr hb1 hlen (by omega) hls).mono fun e W' ⟨he, hb⟩ => ?_
  subst he
  exact ⟨_, rfl, _, _, _, [], _, [], hW', trodAll_mk1 (shut_bool Try.underlying4 _), trodAll_mk2 (Below.trod laid_out (by kernel_rfl) (of_decide_eq_true (by kernel_rfl)) h0k hb (fun x hx => hlt x (by simp [hx]))) (Below.trod laid_out (by kernel_rfl) (of_decide_eq_true (by kernel_rfl)) h1k hb (fun x hx => hlt x (by simp [hx]))), rfl, hb.frame _, fun h => by cases h⟩

/-- RecordRow. -/
theorem row_said : Rows.RecordRowSaid :=
  OpenClaim.holds_of_wide 8 Try.f8 rfl rfl rfl rfl rfl rfl rfl ⟨rfl, rfl, rfl, rfl, rfl⟩ rfl rfl rfl rfl rfl (by kernel_rfl) Try.func8 (by kernel_rfl)
    (of_decide_eq_true (by kernel_rfl)) (by unfold Func.isWrapper; first | (rw [if_pos (by decide +kernel)]; kernel_rfl) | (rw [if_neg (by decide +kernel)]; exact ⟨rfl, rfl⟩))
    (fun os started H enc _ => row_lifted os started H enc)
end Go.Proofs.Ythdenpdhckichaa

/-
  TreeMany returns true for all input, and its arguments read afterwards as they read before. Conditions: none beyond the given row's.
-/
import Derived.Test.YtcjbhjbjkfgphaaTmoff
import Derived.Test.YtcjbhjbjkfgphaaTapis
import Derived.Test.YtcjbhjbjkfgphaaTalike
import Derived.ShutString
import Derived.Lib.SmallJoins
namespace Go.Proofs.Ytcjbhjbjkfgphaa
open Go.ChangeShapes Go.WideShapes Go.ChangeAt Go.ChangeMaps Go.RowKit Go.Deep Go.Maps

section
variable {H : Type} {enc : TypeId × Value → H} {w : World} {base : Nat} {held : Bool}
theorem cells_pair : Try.prog.cellsOf 61 = 2 := by kernel_rfl
theorem cells_u8 : Try.prog.cellsOf 5 = 1 := by kernel_rfl
theorem cells_i64 : Try.prog.cellsOf 3 = 1 := by kernel_rfl
theorem u8_of {n : Int} (h : (Lit.int .u8 n).wf = true) : ∃ c : UInt8, n = (c.toNat : Int) := by
  simp [Lit.wf, IntKind.min, IntKind.max, IntKind.bits, IntKind.signed] at h
  refine ⟨UInt8.ofNat n.toNat, ?_⟩
  rw [UInt8.toNat_ofNat']
  omega
theorem open_pair {fuel : Nat} {cs : List Value} {x : DataW H × List MemPlace} (hl : cs.length = 2) (h : DataW.trod enc Try.prog w base (fun _ => true) held fuel 61 cs = some x) : ∃ q : UInt8 × UInt8, cs = [.int .u8 (q.1.toNat : Int), .int .u8 (q.2.toNat : Int)] := by
  match cs, hl with
  | [c0, c1], _ =>
    obtain ⟨xs, m, _, _, _, hn, hel⟩ := DataW.trod_array Try.underlying61 h
    have h0 := hel 0 (by omega)
    have h1 := hel 1 (by omega)
    match xs, hn with
    | [y0, y1], _ =>
      have h0' : DataW.trod enc Try.prog w base (fun _ => true) held m 5 [c0] = some y0 := by simpa [cells_u8] using h0
      have h1' : DataW.trod enc Try.prog w base (fun _ => true) held m 5 [c1] = some y1 := by simpa [cells_u8] using h1
      obtain ⟨k0, e0, _, w0⟩ := DataW.trod_int Try.underlying5 h0'
      obtain ⟨k1, e1, _, w1⟩ := DataW.trod_int Try.underlying5 h1'
      obtain ⟨a, rfl⟩ := u8_of w0
      obtain ⟨b, rfl⟩ := u8_of w1
      have e0' : c0 = .int .u8 (a.toNat : Int) := by simpa using e0
      have e1' : c1 = .int .u8 (b.toNat : Int) := by simpa using e1
      exact ⟨(a, b), by rw [e0', e1']⟩
set_option maxRecDepth 100000 in
theorem open_pairs {r : Reach} {b0 : Nat} {v : Value} {d : DataW H} {p : List MemPlace} (hv : Value.okWide Try.prog w r b0 57 v) (h : DataW.Trod enc Try.prog w base (fun _ => true) held 57 v d p) :
    ∃ S ps cap, v = .slice S ps.length cap ∧ PairsAt w S ps ∧ ps.length ≤ maxLen := by
  obtain ⟨a0, len0, cap0, rfl⟩ := okWide_slice Try.underlying57 hv
  obtain ⟨fuel, hf⟩ := h
  rcases open_slice Try.underlying57 hf with ⟨hcs, _⟩ | ⟨a, len, cap, m, n, D, Pl, hcs, _, hl, hm, hmm, _, hi⟩
  · refine ⟨none, [], 0, by simpa [Value.cells] using hcs, fun i o ho => by simp at ho, Nat.zero_le _⟩
  · have hmm2 : m = cap := by simpa using hmm
    subst hmm2
    clear hmm
    rw [cells_pair] at hi
    have key : ∀ i, i < m → ∃ o : UInt8 × UInt8, w.cells? base (a.add (i * 2)) 2 = some [.int .u8 (o.1.toNat : Int), .int .u8 (o.2.toNat : Int)] := fun i him => by
      obtain ⟨cs, h1, h2⟩ := hi i him
      obtain ⟨o, rfl⟩ := open_pair (World.cells?_some h1).2.1 h2
      exact ⟨o, h1⟩
    obtain ⟨F, hF⟩ := choose_lt key
    have hv : Value.slice a0 len0 cap0 = .slice (some a) len m := by simpa [Value.cells] using hcs
    refine ⟨some a, (List.range len).map F, m, by rw [hv]; simp, ?_, by simp; omega⟩
    intro i o ho
    rw [List.getElem?_map] at ho
    by_cases hil : i < len
    · rw [List.getElem?_range hil] at ho
      simp only [Option.map_some, Option.some.injEq] at ho
      have hc := hF i (by omega)
      rw [ho] at hc
      obtain ⟨_, hcl, hat⟩ := World.cells?_some hc
      obtain ⟨_, _, hat0⟩ := World.cells?_some (hF 0 (by omega))
      have h00 := hat0 (i := 0) (by omega)
      obtain ⟨g, off, ha, _⟩ := plain_addr (w := w) (a := a) (i := 0) (v := .int .u8 ((F 0).1.toNat : Int)) (fun j hj => by
        obtain rfl : j = 0 := by omega
        have : w.cell? ((a.add (0 * 2)).add 0) = _ := h00
        simp only [Nat.zero_mul] at this
        have e0 : (a.add 0).add 0 = a.add 0 := rfl
        rw [e0] at this
        rw [this]; rfl) (by
        have : w.cell? ((a.add (0 * 2)).add 0) = _ := h00
        simp only [Nat.zero_mul] at this
        exact this)
      subst ha
      have q0 := hat (i := 0) (by omega)
      have q1 := hat (i := 1) (by omega)
      rw [Addr.add_mid, Addr.add_mid] at q0 q1
      exact ⟨g, off, rfl, by simpa using q0, by simpa using q1⟩
    · rw [List.getElem?_eq_none (by simp; omega)] at ho
      cases ho
set_option maxRecDepth 100000 in
theorem open_nums {r : Reach} {b0 : Nat} {v : Value} {d : DataW H} {p : List MemPlace} (hv : Value.okWide Try.prog w r b0 58 v) (h : DataW.Trod enc Try.prog w base (fun _ => true) held 58 v d p) :
    ∃ S ns cap, v = .slice S ns.length cap ∧ NumsAt w S ns ∧ ns.length ≤ maxLen := by
  obtain ⟨a0, len0, cap0, rfl⟩ := okWide_slice Try.underlying58 hv
  obtain ⟨fuel, hf⟩ := h
  rcases open_ints Try.underlying58 Try.underlying3 cells_i64 hf with ⟨hcs, _⟩ | ⟨a, len, cap, zs, hcs, _, hl, hm, hzl, _, hat, hwf⟩
  · refine ⟨none, [], 0, by simpa [Value.cells] using hcs, fun i o ho => by simp at ho, Nat.zero_le _⟩
  · have hz : zs.length = cap := by simpa using hzl
    have hv : Value.slice a0 len0 cap0 = .slice (some a) len cap := by simpa [Value.cells] using hcs
    refine ⟨some a, zs.take len, cap, by rw [hv, List.length_take]; congr 1; omega, ?_, by rw [List.length_take]; omega⟩
    intro i n hn
    rw [List.getElem?_take] at hn
    split at hn
    case isFalse => cases hn
    case isTrue hil =>
      have hlt := (List.getElem?_eq_some_iff.1 hn).1
      have hg : ∀ j, j < zs.length → w.cell? (a.add j) = some (.int .i64 (zs.getD j 0)) := hat
      have hc := hg i hlt
      have hgd : zs.getD i 0 = n := by rw [List.getD_eq_getElem?_getD, hn]; rfl
      rw [hgd] at hc
      obtain ⟨g, o, rfl, hgo⟩ := plain_addr (i := i) (fun j hj => by rw [hg j (by omega)]; rfl) hc
      exact ⟨hwf n (List.mem_of_getElem? hn), g, o, rfl, hgo⟩
end
set_option maxRecDepth 100000 in
theorem many_lifted (os : Os) (started : os.Started) (H : Type) (enc : TypeId × Value → H) :
    ReturnsInHanded {} Try.checked os 6 .any (Rows.treeManySpec.pre6 enc Try.prog Try.f6 Rows.treeManyRow.domain false) (Rows.treeManySpec.post enc Try.prog Try.f6 false true false false) := by
  refine returnsInHanded_of_change (C := Try.checked) own_none started (by kernel_rfl) Try.func6
    (ChangeSpec.witness6 (enc := enc) (C := Try.checked) false ⟨#[], #[.slice none 0 0, .slice none 0 0], []⟩ 8 (by kernel_rfl) (by kernel_rfl) (by kernel_rfl) (by kernel_rfl)) ?_
  intro W base args ds gs before hval0 hW _ _
  have hval : ∀ (j : Nat) t v, Try.f6.params[j]? = some t → args[j]? = some v → Value.okWide Try.prog W .any base t v := hval0
  have hW' := hW
  obtain ⟨p, q, hA0, hV, rfl, _, _⟩ := hW
  have hA : DataW.TrodAll enc Try.prog W 0 (fun _ => true) true Try.f6.params.toList args.toList ds p := hA0
  rw [Try.params6] at hA hval
  obtain ⟨v0, v1, d0, d1, p0, p1, rfl, rfl, rfl, h0, h1⟩ := trodAll_two hA
  obtain ⟨rfl, rfl⟩ := trodVars_none hV
  have h0k := h0
  have h1k := h1
  obtain ⟨S0, ps, cap0, rfl, hs0, hlen0⟩ := open_pairs (hval 0 57 v0 rfl rfl) h0
  obtain ⟨S1, ns, cap1, rfl, hs1, hlen1⟩ := open_nums (hval 1 58 v1 rfl rfl) h1
  clear hA0 hval0
  simp only [List.append_nil] at hW'
  have hlt0 : ∀ x ∈ p0, x.block < W.heap.size := fun x hx => by simpa using hW'.lt x (by simp [hx])
  have hlt1 : ∀ x ∈ p1, x.block < W.heap.size := fun x hx => by simpa using hW'.lt x (by simp [hx])
  refine (many_any rope_few tree_api (fun hT ht ho => TreeIs.off hT ht ho) S0 ps cap0 S1 ns cap1 W hs0 hs1 hlen0 hlen1).mono fun e W' ⟨he, hb⟩ => ?_
  subst he
  exact ⟨_, rfl, _, _, _, [], p0 ++ p1, [], hW', trodAll_mk1 (shut_bool Try.underlying4 _), trodAll_mk2 (Below.trod laid_out (by kernel_rfl) (of_decide_eq_true (by kernel_rfl)) h0k hb hlt0) (Below.trod laid_out (by kernel_rfl) (of_decide_eq_true (by kernel_rfl)) h1k hb hlt1), rfl, hb.frame _, fun h => by cases h⟩

/-- TreeMany. -/
theorem many_said : Rows.TreeManySaid :=
  OpenClaim.holds_of_wide 6 Try.f6 rfl rfl rfl rfl rfl rfl rfl ⟨rfl, rfl, rfl, rfl, rfl⟩ rfl rfl rfl rfl rfl (by kernel_rfl) Try.func6 (by kernel_rfl)
    (of_decide_eq_true (by kernel_rfl)) (by unfold Func.isWrapper; first | (rw [if_pos (by decide +kernel)]; kernel_rfl) | (rw [if_neg (by decide +kernel)]; exact ⟨rfl, rfl⟩))
    (fun os started H enc _ => many_lifted os started H enc)
end Go.Proofs.Ytcjbhjbjkfgphaa

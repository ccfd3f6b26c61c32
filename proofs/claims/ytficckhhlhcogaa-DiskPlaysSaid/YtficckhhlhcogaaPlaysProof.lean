/-
  DiskPlays returns true for every number of blocks and every script, and each argument reads afterwards as it read before. Conditions: none beyond the given row's.
-/
import Derived.Test.YtficckhhlhcogaaPlays
import Derived.Test.YtficckhhlhcogaaNilProof
import Derived.Lay
import Derived.SizedLaws
import Derived.Lib.SmallJoins
namespace Go.Proofs.Ytficckhhlhcogaa
open Go.ChangeShapes Go.WideShapes Go.ChangeAt Go.ChangeMaps Go.RowKit Go.Deep

theorem plays_any (x : Int) (SA : Option Addr) (os : List OpM) (scap : Nat) (w : World) (hos : OpsAt w SA os) (hlen : os.length ≤ maxLen) (hsz : ∀ o ∈ os, o.b.length ≤ 140737488355328) :
    Calls Try.prog 3 #[.int .i64 x, .slice SA os.length scap] w (TrueIs w) := by
  by_cases h : x < 1 ∨ 65536 < x
  · exact plays_out x h _ w
  · obtain ⟨n, rfl⟩ := Int.eq_ofNat_of_zero_le (show 0 ≤ x by omega)
    by_cases h2 : 12 < n
    · exact plays_between n h2 (by omega) _ w
    · exact plays_in n (by omega) (by omega) SA os scap w hos hlen hsz

section
variable {H : Type} {enc : TypeId × Value → H} {w : World} {base : Nat} {held : Bool}
theorem bytesOf_u8 : Try.prog.bytesOf 5 = 1 := by kernel_rfl

theorem bytes_sized {fuel : Nat} {A : Option Addr} {len cap : Nat} {x : DataW H × List MemPlace} (h : DataW.trod enc Try.prog w base (fun _ => true) held fuel 31 [.slice A len cap] = some x) {R : Nat} (hR : ∀ m ∈ x.1.weights Try.prog 31, m ≤ R) : len ≤ R := by
  obtain ⟨d, ps⟩ := x
  have hl := Go.Joins.sliceLen_trod Try.underlying31 h
  cases d with
  | slice el sp =>
    have h1 := hR ((el.length + sp.length) * Try.prog.bytesOf 5) (by simp [DataW.weights, Try.underlying31])
    rw [bytesOf_u8, Nat.mul_one] at h1
    have h2 : el.length = len := hl
    omega
  | _ =>
    have h2 : 0 = len := hl
    omega

theorem op_sized {fuel : Nat} {o : OpM} {x : DataW H × List MemPlace} (h : DataW.trod enc Try.prog w base (fun _ => true) held fuel 34 o.cells = some x) {R : Nat} (hR : ∀ m ∈ x.1.weights Try.prog 34, m ≤ R) : o.b.length ≤ R := by
  obtain ⟨xs, n, _, rfl, hl, hx, hf⟩ := DataW.trod_struct Try.underlying34 h
  match xs, hx with
  | [x0, x1, x2, x3, x4], _ =>
    have f2 : DataW.trod enc Try.prog w base (fun _ => true) held n 31 ((o.cells.drop 2).take (Try.prog.cellsOf 31)) = some x2 := hf 2 _ rfl
    rw [cells_bytes] at f2
    refine bytes_sized f2 fun m hm => hR m ?_
    simp only [DataW.weights, Try.underlying34]
    exact DataW.weights_mem_each (j := 2) (t := 31) rfl rfl m hm

theorem weights_mem_all {P : Program} {e : TypeId} : ∀ {ds : List (DataW H)} {d : DataW H}, d ∈ ds → ∀ n ∈ d.weights P e, n ∈ DataW.weightsAll P e ds
  | a :: r, d, hd, n, hn => by
    simp only [DataW.weightsAll, List.mem_append]
    rcases List.mem_cons.1 hd with rfl | hd
    · exact .inl hn
    · exact .inr (weights_mem_all hd n hn)

theorem open_ops_sized {r : Reach} {b0 : Nat} {v : Value} {d : DataW H} {p : List MemPlace} (hv : Value.okWide Try.prog w r b0 22 v) (h : DataW.Trod enc Try.prog w base (fun _ => true) held 22 v d p) :
    ∃ S os cap, v = .slice S os.length cap ∧ OpsAt w S os ∧ os.length ≤ maxLen ∧ ∀ R, (∀ m ∈ d.weights Try.prog 22, m ≤ R) → ∀ o ∈ os, o.b.length ≤ R := by
  obtain ⟨a0, len0, cap0, rfl⟩ := okWide_slice Try.underlying22 hv
  obtain ⟨fuel, hf⟩ := h
  rcases open_slice Try.underlying22 hf with ⟨hcs, _⟩ | ⟨a, len, cap, m, n, D, Pl, hcs, _, hl, hm, hmm, hx, hi⟩
  · refine ⟨none, [], 0, by simpa [Value.cells] using hcs, fun i o ho => by simp at ho, by unfold maxLen; simp, fun R _ o ho => by cases ho⟩
  · have hmm2 : m = cap := by simpa using hmm
    subst hmm2
    clear hmm
    rw [cells_op] at hi
    have key : ∀ i, i < m → ∃ o : OpM, o.good w ∧ w.cells? base (a.add (i * 5)) 5 = some o.cells ∧ ∀ R, (∀ m ∈ (D i).weights Try.prog 34, m ≤ R) → o.b.length ≤ R := fun i him => by
      obtain ⟨cs, h1, h2⟩ := hi i him
      obtain ⟨o, rfl, hg⟩ := open_op h2
      exact ⟨o, hg, h1, fun R hR => op_sized (x := (D i, Pl i)) h2 hR⟩
    obtain ⟨F, hF⟩ := choose_lt key
    have hv : Value.slice a0 len0 cap0 = .slice (some a) len m := by simpa [Value.cells] using hcs
    refine ⟨some a, (List.range len).map F, m, by rw [hv]; simp, ?_, by simp; omega, ?_⟩
    · intro i o ho
      rw [List.getElem?_map] at ho
      by_cases hil : i < len
      · rw [List.getElem?_range hil] at ho
        simp only [Option.map_some, Option.some.injEq] at ho
        obtain ⟨hg, hc, _⟩ := hF i (by omega)
        rw [ho] at hg hc
        obtain ⟨_, hcl, hat⟩ := World.cells?_some hc
        obtain ⟨_, _, hat0⟩ := World.cells?_some (hF 0 (by omega)).2.1
        have h00 := hat0 (i := 0) (by omega)
        obtain ⟨g, off, ha, _⟩ := plain_addr (w := w) (a := a) (i := 0) (v := .int .i64 (F 0).kind) (fun j hj => by
          obtain rfl : j = 0 := by omega
          have : w.cell? ((a.add (0 * 5)).add 0) = _ := h00
          simp only [Nat.zero_mul] at this
          have e0 : (a.add 0).add 0 = a.add 0 := rfl
          rw [e0] at this
          rw [this]; rfl) (by
          have : w.cell? ((a.add (0 * 5)).add 0) = _ := h00
          simp only [Nat.zero_mul] at this
          exact this)
        subst ha
        refine ⟨hg, g, off, rfl, fun j u hu => ?_⟩
        have hj : j < 5 := by have := (List.getElem?_eq_some_iff.1 hu).1; simpa [OpM.cells] using this
        have := hat (i := j) hj
        rw [Addr.add_mid, Addr.add_mid] at this
        rw [this, hu]
      · rw [List.getElem?_eq_none (by simp; omega)] at ho
        cases ho
    · intro R hR o ho
      obtain ⟨i, hil, rfl⟩ := List.mem_map.1 ho
      have hil' : i < len := by simpa using hil
      refine (hF i (by omega)).2.2 R fun k hk => hR k ?_
      have hd : d = .slice ((List.range len).map D) ((List.range (m - len)).map fun j => D (len + j)) := (Prod.mk.inj hx).1
      rw [hd]
      simp only [DataW.weights, Try.underlying22, List.mem_cons, List.mem_append]
      exact .inr (.inl (weights_mem_all (List.mem_map.2 ⟨i, by simpa using hil', rfl⟩) k hk))
end

set_option maxRecDepth 100000 in
theorem plays_lifted (os : Os) (started : os.Started) (H : Type) (enc : TypeId × Value → H) :
    ReturnsInHanded {} Try.checked os 3 .any (Rows.diskPlaysSpec.pre6 enc Try.prog Try.f3 Rows.diskPlaysRow.domain false) (Rows.diskPlaysSpec.post enc Try.prog Try.f3 false true false false) := by
  refine returnsInHanded_of_change_sized (C := Try.checked) own_none started (by kernel_rfl) Try.func3
    (ChangeSpec.witness6 (enc := enc) (C := Try.checked) false ⟨#[], #[.int .i64 0, .slice none 0 0], []⟩ 8 (by kernel_rfl) (by kernel_rfl) (by kernel_rfl) (by kernel_rfl)) ?_
  intro W base args ds gs before hval0 hW _ hsz0 _
  have hval : ∀ (j : Nat) t v, Try.f3.params[j]? = some t → args[j]? = some v → Value.okWide Try.prog W .any base t v := hval0
  have hW' := hW
  obtain ⟨p, q, hA0, hV, rfl, _, _⟩ := hW
  have hA : DataW.TrodAll enc Try.prog W 0 (fun _ => true) true Try.f3.params.toList args.toList ds p := hA0
  have hsz1 : (DataW.weightsEach Try.prog (Try.f3.params.toList ++ Rows.diskPlaysSpec.plain.varTypes Try.prog) (ds ++ gs)).all (· ≤ reachBytes) = true := hsz0
  rw [Try.params3] at hA hval hsz1
  obtain ⟨v0, v1, d0, d1, p0, p1, rfl, rfl, rfl, h0, h1⟩ := trodAll_two hA
  obtain ⟨rfl, rfl⟩ := trodVars_none hV
  have h1k := h1
  obtain ⟨x, rfl, rfl, rfl, wx⟩ := open_int Try.underlying3 (hval 0 3 v0 rfl rfl) h0
  obtain ⟨SA, ops, cap, rfl, hs, hlen, hR⟩ := open_ops_sized (hval 1 22 v1 rfl rfl) h1
  have hb48 := hR 140737488355328 (fun m hm => by
    have h2 := List.all_eq_true.1 hsz1 m (DataW.weights_mem_each (j := 1) (t := 22) (d := d1) rfl rfl m hm)
    have h3 : m ≤ reachBytes := by simpa using h2
    have h4 := reachBytes_lt
    omega)
  clear hA0 hval0
  simp only [List.append_nil, List.nil_append] at hW'
  have hlt1 : ∀ y ∈ p1, y.block < W.heap.size := fun y hy => by simpa using hW'.lt y (by simp [hy])
  refine (plays_any x SA ops cap W hs hlen hb48).mono fun e W' ⟨he, hb⟩ => ?_
  subst he
  exact ⟨_, rfl, _, _, _, [], _, [], hW', trodAll_mk1 (shut_bool Try.underlying4 _), trodAll_mk2 (shut_int Try.underlying3 wx) (Below.trod laid_out (by kernel_rfl) (of_decide_eq_true (by kernel_rfl)) h1k hb hlt1), rfl, hb.frame _, fun h => by cases h⟩

/-- DiskPlays. -/
theorem plays_said : Rows.DiskPlaysSaid :=
  OpenClaim.holds_of_wide 3 Try.f3 rfl rfl rfl rfl rfl rfl rfl ⟨rfl, rfl, rfl, rfl, rfl⟩ rfl rfl rfl rfl rfl (by kernel_rfl) Try.func3 (by kernel_rfl)
    (of_decide_eq_true (by kernel_rfl)) (by unfold Func.isWrapper; first | (rw [if_pos (by decide +kernel)]; kernel_rfl) | (rw [if_neg (by decide +kernel)]; exact ⟨rfl, rfl⟩))
    (fun os started H enc _ => plays_lifted os started H enc)
end Go.Proofs.Ytficckhhlhcogaa

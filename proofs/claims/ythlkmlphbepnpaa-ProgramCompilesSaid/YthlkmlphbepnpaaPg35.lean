/-
  The program's Compile and the document's answer alike; places are equal to themselves. Conditions: lines of at most a million.
-/
import Derived.Test.YthlkmlphbepnpaaPg34
import Derived.Test.YthlkmlphbepnpaaPg32
import Derived.Test.YthlkmlphbepnpaaPg27
import Derived.Test.YthlkmlphbepnpaaPgt
namespace Go.Proofs.Ythlkmlphbepnpaa
open Go Ieee Go.RowKit Go.Deep

/-- A place that is equal to itself. -/
def EqC (re im : Nat) : Prop := ∀ W : World, (binOp .eql 28 (.complex .f64 re im) (.complex .f64 re im)).run Try.prog W = .ok (.bool true) W
theorem eqc_zero : EqC 0 0 := fun W => by kernel_rfl
theorem eqc_line (n : Nat) (hn : n < 9007199254740992) : EqC (floatOfInt .f64 (n : Int)) 4607182418800017408 := fun w => by
  rw [floatOfInt_nat n hn]
  have h1 := fcmp_self n hn
  have h2 := fcmp_one
  simp [binOp, go_sem, Op.complexOp, Op.Complex.cmp, h1, h2]
theorem eqc_brief (b : BM) : EqC b.cm.re b.cm.im := by
  obtain ⟨n, hn, hl⟩ : ∃ n : Nat, n ≤ 1000000 ∧ lineB b.line = (n : Int) := by
    unfold lineB
    split
    · exact ⟨0, by omega, rfl⟩
    · exact ⟨b.line.toNat, by omega, by omega⟩
  show EqC (floatOfInt .f64 (lineB b.line)) oneF
  rw [hl]
  exact eqc_line n (by omega)
theorem eqp_briefs {l : List BM} : ∀ c ∈ l.map BM.cm, EqP c := by
  intro c hc
  obtain ⟨b, _, rfl⟩ := List.mem_map.1 hc
  exact eqc_brief b
theorem ims_mem {l : List CM} {J : Nat → Int} {y : IM} (h : y ∈ ims l J l.length) : y.1 ∈ l := by
  obtain ⟨i, hi, rfl⟩ := List.mem_map.1 h
  have hi := List.mem_range.1 hi
  rw [imAt_of (List.getElem?_eq_getElem hi)]
  exact List.getElem_mem hi
/-- Both answers. -/
theorem comp_doc {l : List CM} {w w' v v' : World} {e e' : Ending} (h : CompAns l w e w') (k : DocAns l v e' v') :
    ∃ (I : List IM) (A A' : Option Addr) (c c' : Nat) (re im : Nat) (x : Int), e = .returned (.tuple #[.slice A I.length c, .complex .f64 re im, .int .i64 x]) ∧ e' = .returned (.tuple #[.slice A' I.length c', .complex .f64 re im, .int .i64 x]) ∧
      RawAt w' A (imV I) ∧ RawAt v' A' (imV I) ∧ I.length ≤ 200 ∧ (∀ y ∈ I, y.1 ∈ l) ∧ ((re = 0 ∧ im = 0) ∨ ∃ c ∈ l, re = c.re ∧ im = c.im) := by
  obtain ⟨_, h⟩ := h
  obtain ⟨_, re, im, x, hf, k⟩ := k
  rcases h with ⟨h1, rfl⟩ | ⟨h1, i, c, hc, hcb, rfl⟩ | ⟨h1, hcb, i, c, hc, hlb, rfl⟩ | ⟨h1, J, g, hJ, _, hr, rfl⟩
  · rcases hf with ⟨_, rfl, rfl, rfl⟩ | ⟨h2, _⟩ | ⟨h2, _⟩ | ⟨h2, _⟩
    · rcases k with ⟨_, rfl⟩ | ⟨h0, _⟩
      · exact ⟨[], none, none, 0, 0, 0, 0, 143, rfl, rfl, .inl rfl, .inl rfl, Nat.zero_le _, fun y hy => (List.not_mem_nil hy).elim, .inl ⟨rfl, rfl⟩⟩
      · omega
    · omega
    · omega
    · omega
  · rcases hf with ⟨h2, _⟩ | ⟨_, i', c', hc', hcb', rfl, rfl, rfl⟩ | ⟨_, hcb', _⟩ | ⟨_, hcb', _⟩
    · omega
    · have hd := CB.det hcb hcb'
      injection hd with hd
      subst hd
      rw [hc] at hc'
      injection hc' with hc'
      subst hc'
      rcases k with ⟨_, rfl⟩ | ⟨h0, _⟩
      · exact ⟨[], none, none, 0, 0, c.re, c.im, 142, rfl, rfl, .inl rfl, .inl rfl, Nat.zero_le _, fun y hy => (List.not_mem_nil hy).elim, .inr ⟨c, List.mem_of_getElem? hc, rfl, rfl⟩⟩
      · omega
    · have hd := CB.det hcb hcb'
      cases hd
    · have hd := CB.det hcb hcb'
      cases hd
  · rcases hf with ⟨h2, _⟩ | ⟨_, i', c', hc', hcb', _⟩ | ⟨_, _, i', c', hc', hlb', rfl, rfl, rfl⟩ | ⟨_, _, hlb', _⟩
    · omega
    · have hd := CB.det hcb hcb'
      cases hd
    · have hd := LB.det hlb hlb'
      injection hd with hd
      subst hd
      rw [hc] at hc'
      injection hc' with hc'
      subst hc'
      rcases k with ⟨_, rfl⟩ | ⟨h0, _⟩
      · exact ⟨[], none, none, 0, 0, c.re, c.im, 141, rfl, rfl, .inl rfl, .inl rfl, Nat.zero_le _, fun y hy => (List.not_mem_nil hy).elim, .inr ⟨c, List.mem_of_getElem? hc, rfl, rfl⟩⟩
      · omega
    · have hd := LB.det hlb hlb'
      cases hd
  · have hcb : CB (cN l) l.length none := .ok hJ.shut
    have hlb : LB (cN l) (cT l) l.length none := .ok hJ.dis fun j hj h1 h2 => by
      obtain ⟨k, a, b, c, _⟩ := hJ.label j hj h1 h2
      exact ⟨k, a, b, c⟩
    rcases hf with ⟨h2, _⟩ | ⟨_, i', c', hc', hcb', _⟩ | ⟨_, _, i', c', hc', hlb', _⟩ | ⟨_, _, _, rfl, rfl, rfl⟩
    · omega
    · have hd := CB.det hcb hcb'
      cases hd
    · have hd := LB.det hlb hlb'
      cases hd
    · rcases k with ⟨h0, _⟩ | ⟨_, K, u, hK, hown, rfl⟩
      · exact absurd rfl h0
      · have he : ims l K l.length = ims l J l.length := ims_congr fun i hi => (jok_one hJ hi (hK i hi)).symm
        rw [he] at hown
        obtain ⟨A', c', rfl, hraw⟩ := hown.raw
        exact ⟨ims l J l.length, some ⟨g, 0, none⟩, A', l.length, c', 0, 0, 0, by rw [ims_len], rfl, .inr ⟨g, 0, rfl, hr⟩, hraw, by rw [ims_len]; exact h1, fun y hy => ims_mem hy, .inl ⟨rfl, rfl⟩⟩
/-- An empty row of commands, laid anew. -/
theorem wpList_lit_nilC {ops : Array Oper} {rest : List Oper} {o : Oper} {a : Act} {w : World} {Q : Exit → Act → World → Prop} (hg : o.guard = none) (ho : o.op = .buildSlice 23 0 #[])
    (h : ∀ v w', OwnC w' w.heap.size v [] → Below w.heap.size w w' → wpList Try.prog ops Q rest (a.put o.dst v) w') : wpList Try.prog ops Q (o :: rest) a w := by
  refine wpList_plain hg fun K hK => ?_
  unfold Oper.wp execOp
  have hrun : (Instr.buildSlice 23 0 #[]).run Try.prog w = .ok (.slice (some ⟨w.heap.size, 0, none⟩) 0 0) (w.alloc (.cells #[] 51)) := by kernel_rfl
  have hp : (#[] : Array (Nat × Operand)).map (fun (i, x) => (i, a.eval x)) = #[] := by simp
  simp only [ho, hp, Sem.run_bind, hrun, Result.andThen_ok, Sem.run_pure]
  exact hK _ _ (h _ _ (own_lit w [] (Nat.zero_le _)) (bW w _))
end Go.Proofs.Ythlkmlphbepnpaa

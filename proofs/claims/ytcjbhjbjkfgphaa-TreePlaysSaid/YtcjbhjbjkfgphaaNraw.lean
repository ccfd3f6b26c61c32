/-
  Rows of cells in memory, whatever they hold: as they lie, parts of them, and put behind a row of the call's own. No condition.
-/
import Derived.Test.YtcjbhjbjkfgphaaNmodel
import Derived.Test.YtcjbhjbjkfgphaaTmem
import Derived.Lib.AppendZeros
namespace Go.Proofs.Ytcjbhjbjkfgphaa
open Go.RowKit Go.Deep

/-- Cells as they lie. -/
def RawAt (w : World) (A : Option Addr) (vs : List Value) : Prop := vs = [] ∨ ∃ g o, A = some ⟨g, o, none⟩ ∧ w.rangeAt g o vs
theorem RawAt.nil (w : World) (A : Option Addr) : RawAt w A [] := .inl rfl
theorem RawAt.below {w w' : World} {A : Option Addr} {vs : List Value} (h : RawAt w A vs) (hb : Below w.heap.size w w') : RawAt w' A vs := by
  rcases h with h | ⟨g, o, e, hr⟩
  · exact .inl h
  · exact .inr ⟨g, o, e, fun j v hv => by
      rw [World.cell?_of_block (hb.block g (World.block_lt_of_cell? _ _ (hr j v hv)))]
      exact hr j v hv⟩
theorem RawAt.take {w : World} {A : Option Addr} {vs : List Value} (h : RawAt w A vs) (k : Nat) : RawAt w A (vs.take k) := by
  rcases h with h | ⟨g, o, e, hr⟩
  · exact .inl (by rw [h, List.take_nil])
  · exact .inr ⟨g, o, e, fun j v hv => hr j v (by
      rw [List.getElem?_take] at hv
      split at hv
      · exact hv
      · cases hv)⟩
theorem RawAt.drop {w : World} {A : Option Addr} {vs : List Value} (h : RawAt w A vs) (k : Nat) : RawAt w (A.map (·.add k)) (vs.drop k) := by
  rcases h with h | ⟨g, o, e, hr⟩
  · exact .inl (by rw [h, List.drop_nil])
  · refine .inr ⟨g, o + k, by rw [e, Option.map_some, Addr.add_mid], fun j v hv => ?_⟩
    rw [List.getElem?_drop] at hv
    rw [Nat.add_assoc]
    exact hr (k + j) v hv
theorem RawAt.cell {w : World} {A : Option Addr} {vs : List Value} (h : RawAt w A vs) {i : Nat} {v : Value} (hv : vs[i]? = some v) : ∃ g o, A = some ⟨g, o, none⟩ ∧ w.cell? ⟨g, o + i, none⟩ = some v := by
  rcases h with h | ⟨g, o, e, hr⟩
  · rw [h] at hv
    simp at hv
  · exact ⟨g, o, e, hr i v hv⟩
/-- A part of a row, as reslicing gives it. -/
theorem sliced_part {w : World} {A : Option Addr} {vs : List Value} (h : RawAt w A vs) {l n c sz : Nat} (hl : l ≤ n) (hc : n ≤ c) (hv : vs.length = n * sz) (b : Nat) (hb : b ≤ n) (hlb : l ≤ b) :
    ∃ B, sliced A l b c sz = .slice B (b - l) (c - l) ∧ RawAt w B ((vs.take (b * sz)).drop (l * sz)) ∧ ((vs.take (b * sz)).drop (l * sz)).length = (b - l) * sz ∧ b - l ≤ c - l := by
  have hlen : ((vs.take (b * sz)).drop (l * sz)).length = (b - l) * sz := by
    rw [List.length_drop, List.length_take, hv, Nat.min_eq_left (Nat.mul_le_mul_right _ hb), Nat.sub_mul]
  by_cases he : c = l
  · refine ⟨A, by unfold sliced; rw [if_pos he], .inl ?_, hlen, by omega⟩
    apply List.eq_nil_of_length_eq_zero
    rw [hlen, show b - l = 0 by omega, Nat.zero_mul]
  · exact ⟨A.map (·.add (l * sz)), by unfold sliced; rw [if_neg he], (h.take (b * sz)).drop (l * sz), hlen, by omega⟩
theorem own_form {w : World} {base : Nat} {e : TypeId} {sz : Nat} {v : Value} {n : Nat} {vs : List Value} (h : w.ownsRow base e sz v n vs) : ∃ A c, v = .slice A n c ∧ n ≤ c ∧ RawAt w A vs ∧ vs.length = n * sz := by
  rcases h.2 with ⟨e, hn⟩ | ⟨k, cap, cur, e, hk, hg, hnc, hcm, hcs, ht⟩
  · subst hn
    exact ⟨none, 0, e, Nat.le_refl _, .inl (List.eq_nil_of_length_eq_zero (by rw [h.1, Nat.zero_mul])), h.1⟩
  · refine ⟨_, cap, e, hnc, .inr ⟨k, 0, rfl, fun j v hv => ?_⟩, h.1⟩
    rw [Nat.zero_add]
    subst e
    have := World.ownsRow.cells h (g := k) rfl j v hv
    rw [Addr.add_mid, Nat.zero_add] at this
    exact this

theorem obj_cell {w : World} {b : Nat} {cs : Array Value} {T : TypeId} {fr : Nat × Nat} (hb : w.heap[b]? = some (.cells cs T fr)) (j : Nat) : w.cell? ⟨b, j, none⟩ = cs[j]? := by
  simp [World.cell?, hb]
theorem own_base {w : World} {b0 b1 : Nat} {e : TypeId} {sz : Nat} {v : Value} {n : Nat} {vs : List Value} (h : w.ownsRow b1 e sz v n vs) (hb : b0 ≤ b1) : w.ownsRow b0 e sz v n vs := by
  refine ⟨h.1, ?_⟩
  rcases h.2 with h2 | ⟨k, cap, cur, e, hk, rest⟩
  · exact .inl h2
  · exact .inr ⟨k, cap, cur, e, Nat.le_trans hb hk, rest⟩
/-- The facts of a type of elements. -/
structure ElemOf (st e : TypeId) (sz by_ : Nat) : Prop where
  under : Try.prog.underlying st = some (.slice e)
  info : ∃ i z, Try.prog.info? e = some i ∧ i.zero = some z ∧ i.size = sz ∧ i.bytes = by_ ∧ z.cells.size = sz
  pos : 0 < sz
  small : by_ ≤ 64
theorem ElemOf.size {st e : TypeId} {sz by_ : Nat} (E : ElemOf st e sz by_) {W : World} : (sizeOf (Try.prog.elem st)).run Try.prog W = .ok sz W := by
  obtain ⟨i, z, hi, _, hs, _⟩ := E.info
  have he : Try.prog.elem st = e := by unfold Program.elem; rw [E.under]
  rw [he]
  simp [sizeOf, typeInfo, hi, hs]
theorem run_append_raw {w : World} {st e : TypeId} {sz by_ base n : Nat} {v : Value} {vs : List Value} (E : ElemOf st e sz by_) (hown : w.ownsRow base e sz v n vs) (A : Option Addr) (m c : Nat) (us : List Value) (hat : RawAt w A us) (hlen : us.length = m * sz)
    (h1 : ∀ u ∈ us, u.oneCell' = true) (hn : n + m ≤ 1099511627776) (hbase : base ≤ w.heap.size) :
    ∃ v' w', (Builtin.append_ #[st, st] st #[v, .slice A m c]).run Try.prog w = .ok v' w' ∧ w'.ownsRow base e sz v' (n + m) (vs ++ us) ∧ w.grownBy w' v.ownBlock ∧ (∀ k, v'.ownBlock = some k → v.ownBlock = some k ∨ w.heap.size ≤ k) := by
  obtain ⟨i, z, hi, hz, hsz, hby, hzs⟩ := E.info
  by_cases h0 : m = 0
  · subst h0
    have hus : us = [] := List.eq_nil_of_length_eq_zero (by rw [hlen, Nat.zero_mul])
    subst hus
    obtain ⟨B, c', rfl, hle, _, _⟩ := own_form hown
    refine ⟨_, w, ?_, by rw [List.append_nil]; exact hown, ⟨rfl, rfl, rfl, Nat.le_refl _, fun _ _ _ => rfl⟩, fun k hk => .inl hk⟩
    have h0 : ∀ a : Addr, (loadCells a 0).run Try.prog w = .ok #[] w := fun a => by
      have := run_loadCells_list (P := Try.prog) w a [] (fun j v hj => by simp at hj)
      simpa using this
    cases A <;> cases B <;> simp [h0, Builtin.append_, run_underlying E.under, sizeOf, typeInfo, hi, Builtin.lenOf, Builtin.firstCells, hle, storeCells]
  · obtain ⟨g, o, rfl, hr⟩ : ∃ g o, A = some ⟨g, o, none⟩ ∧ w.rangeAt g o us := by
      rcases hat with hat | hat
      · rw [hat] at hlen
        have := E.pos
        simp only [List.length_nil] at hlen
        exact absurd hlen.symm (Nat.mul_ne_zero h0 (by omega))
      · exact hat
    obtain ⟨gg, cc, w', hap, hown', hgrow, hwh, _⟩ := run_append_lies (P := Try.prog) w st st base e i z sz by_ E.under hi hz hsz hby hzs E.pos v n vs hown ⟨g, o, none⟩ m c us hlen
      (fun j u hu => by rw [Addr.add_mid]; exact hr j u hu) h1 (by omega) (by unfold maxLen; omega) (by have := E.small; exact Nat.le_trans (Nat.mul_le_mul_left _ this) (by omega)) hbase _ rfl
    refine ⟨_, w', hap, hown', hgrow, fun k hk => ?_⟩
    have e : some gg = some k := hk
    injection e with e
    subst e
    rcases hwh with hwh | hwh
    · exact .inl hwh
    · exact .inr (by rw [hwh]; exact Nat.le_refl _)
/-- .. for the walk: whatever is read is put behind. -/
theorem wpList_append_raw {st e : TypeId} {sz by_ : Nat} {ops : Array Oper} {rest : List Oper} {a : Act} {Q : Exit → Act → World → Prop} {s x : Operand} {ps : String} {af : Array Edge} {w : World} {base n : Nat} {v : Value} {vs : List Value} {A : Option Addr} {m c : Nat} (d : Tmp) (us : List Value)
    (E : ElemOf st e sz by_) (hown : w.ownsRow base e sz v n vs) (hat : RawAt w A us) (hlen : us.length = m * sz) (h1 : ∀ u ∈ us, u.oneCell' = true) (hs : a.eval s = v) (hx : a.eval x = .slice A m c) (hn : n + m ≤ 1099511627776) (hbase : base ≤ w.heap.size)
    (h : ∀ v' w', w'.ownsRow base e sz v' (n + m) (vs ++ us) → Turned (fun j => v.ownBlock = some j) w w' → (∀ k, v'.ownBlock = some k → v.ownBlock = some k ∨ w.heap.size ≤ k) → wpList Try.prog ops Q rest (a.put (some d) v') w') :
    wpList Try.prog ops Q ({ dst := some d, op := .call { callee := .builtin .append, args := #[s, x], argTypes := #[st, st] }, type := st, pos := ps, after := af, guard := none } :: rest) a w := by
  obtain ⟨v', w', hap, hown', hgrow, hk⟩ := run_append_raw E hown A m c us hat hlen h1 hn hbase
  exact wpList_append_to d hap hs hx (h v' w' hown' (Turned.of_grown (S := fun j => v.ownBlock = some j) hgrow (fun k hk => hk)) hk)

/-- A row among those to be joined. -/
structure RowD where
  A : Option Addr
  n : Nat
  c : Nat
  vs : List Value
def RowD.val (r : RowD) : Value := .slice r.A r.n r.c
def RowD.good (w : World) (sz : Nat) (r : RowD) : Prop := r.vs.length = r.n * sz ∧ RawAt w r.A r.vs ∧ (∀ u ∈ r.vs, u.oneCell' = true) ∧ r.n ≤ 4096
def tot (rs : List RowD) : Nat := (rs.map (·.n)).sum
def allV (rs : List RowD) : List Value := rs.flatMap (·.vs)
theorem RowD.good.below {w w' : World} {sz : Nat} {r : RowD} (h : r.good w sz) (hb : Below w.heap.size w w') : r.good w' sz := ⟨h.1, h.2.1.below hb, h.2.2⟩
theorem tot_take {rs : List RowD} {i : Nat} {r : RowD} (h : rs[i]? = some r) : tot (rs.take (i + 1)) = tot (rs.take i) + r.n := by
  rw [List.take_add_one, h]
  simp [tot]
theorem allV_take {rs : List RowD} {i : Nat} {r : RowD} (h : rs[i]? = some r) : allV (rs.take (i + 1)) = allV (rs.take i) ++ r.vs := by
  rw [List.take_add_one, h]
  simp [allV]
theorem tot_le {w : World} {sz : Nat} : ∀ {rs : List RowD}, (∀ r ∈ rs, r.good w sz) → tot rs ≤ rs.length * 4096
  | [], _ => Nat.zero_le _
  | r :: rs, h => by
    have h1 := (h r List.mem_cons_self).2.2.2
    have h2 := tot_le (w := w) (sz := sz) (rs := rs) (fun x hx => h x (List.mem_cons_of_mem _ hx))
    simp only [tot, List.map_cons, List.sum_cons, List.length_cons] at h2 ⊢
    omega
set_option maxRecDepth 100000 in
theorem info_xfile : (Try.prog.info? 68).map (fun i => (i.zero, i.size, i.bytes)) = some (some (.agg #[.string ⟨#[]⟩, .int .i64 0, .pointer none]), 3, 32) := by kernel_rfl
set_option maxRecDepth 100000 in
theorem info_pnode : (Try.prog.info? 71).map (fun i => (i.zero, i.size, i.bytes)) = some (some (.pointer none), 1, 8) := by kernel_rfl
theorem elem_file : ElemOf 74 68 3 32 := by
  obtain ⟨i, hi, hz, hs, hb⟩ := info_parts info_xfile
  exact ⟨Try.underlying74, ⟨i, _, hi, hz, hs, hb, rfl⟩, by omega, by omega⟩
theorem elem_node : ElemOf 75 71 1 8 := by
  obtain ⟨i, hi, hz, hs, hb⟩ := info_parts info_pnode
  exact ⟨Try.underlying75, ⟨i, _, hi, hz, hs, hb, rfl⟩, by omega, by omega⟩
end Go.Proofs.Ytcjbhjbjkfgphaa

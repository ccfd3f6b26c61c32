import Derived.Test.YtncbmdbfdjhkeaaProg
import Derived.WalkKit
import Derived.ProofKit
import Derived.Deep.MidRow
import Derived.Deep.AppendLies
import Derived.Deep.Draws
import Derived.Lib.Hide
import Derived.Lib.SmallJoins
import Derived.Lib.AppendZeros
import Derived.Laws.OwnMore
import Derived.Laws.Strings2
import Derived.Laws.Strings3
import Derived.WalkSpells
/-
  Texts; worlds of which a known set of blocks has turned; rows of cells in memory, whatever they hold: as they lie, parts of them, and put behind a row of the call's own. No condition.
-/
namespace Go.Proofs.Ytncbmdbfdjhkeaa
open Go.RowKit Go.Deep
def txt (l : List UInt8) : ByteArray := ⟨l.toArray⟩
theorem size_txt (l : List UInt8) : (txt l).size = l.length := by simp [txt, ByteArray.size]
theorem txt_of (s : ByteArray) : txt s.data.toList = s := by cases s; simp [txt]
theorem txt_extract (l : List UInt8) (i j : Nat) : (txt l).extract i j = txt ((l.take j).drop i) := by
  have : ((txt l).extract i j).data = (txt ((l.take j).drop i)).data := by
    simp [txt, ByteArray.data_extract, List.drop_take]
  cases h : (txt l).extract i j
  rw [h] at this
  simp only at this
  rw [this]
structure Turned (S : Nat → Prop) (w w' : World) : Prop where
  os : w'.os = w.os
  tape : w'.tape = w.tape
  output : w'.output = w.output
  size : w.heap.size ≤ w'.heap.size
  block : ∀ k, k < w.heap.size → ¬ S k → w'.heap[k]? = w.heap[k]?
theorem Turned.refl (S : Nat → Prop) (w : World) : Turned S w w := ⟨rfl, rfl, rfl, Nat.le_refl _, fun _ _ _ => rfl⟩
theorem Turned.trans {S T : Nat → Prop} {a b c : World} (h : Turned S a b) (k : Turned T b c) (hT : ∀ i, i < a.heap.size → T i → S i) : Turned S a c :=
  ⟨k.os.trans h.os, k.tape.trans h.tape, k.output.trans h.output, Nat.le_trans h.size k.size, fun i hi hn => (k.block i (Nat.lt_of_lt_of_le hi h.size) (fun ht => hn (hT i hi ht))).trans (h.block i hi hn)⟩
theorem Turned.of_below {S : Nat → Prop} {a b : World} (h : Below a.heap.size a b) : Turned S a b := ⟨h.os, h.tape, h.output, h.size, fun i hi _ => h.block i hi⟩
theorem Turned.of_grown {S : Nat → Prop} {a b : World} {row : Option Nat} (h : a.grownBy b row) (hr : ∀ k, row = some k → S k) : Turned S a b :=
  ⟨h.os, h.tape, h.output, h.size, fun i hi hn => h.block i hi (fun e => hn (hr i e.symm))⟩
theorem Turned.drewN {S : Nat → Prop} {a b : World} (h : Turned S a b) (n : Nat) : Turned S a (b.drewN n) := ⟨h.os, h.tape, h.output, h.size, h.block⟩
theorem Turned.below {S : Nat → Prop} {a b : World} {B : Nat} (h : Turned S a b) (hB : B ≤ a.heap.size) (hS : ∀ k, S k → B ≤ k) : Below B a b :=
  ⟨h.os, h.tape, h.output, h.size, fun i hi => h.block i (by omega) (fun hs => by have := hS i hs; omega)⟩
theorem Turned.cell {S : Nat → Prop} {a b : World} (h : Turned S a b) {p : Addr} {v : Value} (hc : a.cell? p = some v) (hn : ¬ S p.block) : b.cell? p = some v :=
  (World.cell?_of_block (h.block p.block (World.block_lt_of_cell? a p hc) hn)).trans hc
theorem lt_of_some {w : World} {b : Nat} {o : Obj} (h : w.heap[b]? = some o) : b < w.heap.size := (Array.getElem?_eq_some_iff.1 h).1
theorem Turned.obj {S : Nat → Prop} {a b : World} (h : Turned S a b) {k : Nat} {o : Obj} (hk : a.heap[k]? = some o) (hn : ¬ S k) : b.heap[k]? = some o :=
  (h.block k (lt_of_some hk) hn).trans hk
theorem Below.obj {a b : World} {B : Nat} (h : Below B a b) {k : Nat} {o : Obj} (hk : a.heap[k]? = some o) (hn : k < B) : b.heap[k]? = some o := (h.block k hn).trans hk
theorem ownsRow_turned {w w' : World} {S : Nat → Prop} {base : Nat} {e : TypeId} {size : Nat} {v : Value} {n : Nat} {xs : List Value} (h : w.ownsRow base e size v n xs) (ht : Turned S w w') (hn : ∀ k, v.ownBlock = some k → ¬ S k) : w'.ownsRow base e size v n xs := by
  refine ⟨h.1, ?_⟩
  rcases h.2 with h0 | ⟨g, cap, cur, rfl, hb, hgg, rest⟩
  · exact .inl h0
  · exact .inr ⟨g, cap, cur, rfl, hb, ht.obj hgg (hn g rfl), rest⟩
theorem info_parts {t : TypeId} {z : Value} {s b : Nat} (h : (Try.prog.info? t).map (fun i => (i.zero, i.size, i.bytes)) = some (some z, s, b)) : ∃ i, Try.prog.info? t = some i ∧ i.zero = some z ∧ i.size = s ∧ i.bytes = b := by
  cases hi : Try.prog.info? t with
  | none => rw [hi] at h; cases h
  | some i =>
    rw [hi] at h
    simp only [Option.map_some, Option.some.injEq, Prod.mk.injEq] at h
    exact ⟨i, rfl, h.1, h.2.1, h.2.2⟩
theorem wpList_append_eq {P : Program} {w w' : World} {ops : Array Oper} {rest : List Oper} {o : Oper} {a : Act} {Q : Exit → Act → World → Prop} {v u r : Value} (hgd : o.guard = none) (s x : Operand) (t : TypeId)
    (ho : o.op = .call { callee := .builtin .append, args := #[s, x], argTypes := #[t, t] }) (hs : a.eval s = v) (hx : a.eval x = u) (hap : (Builtin.append_ #[t, t] o.type #[v, u]).run P w = .ok r w')
    (h : wpList P ops Q rest (a.put o.dst r) w') : wpList P ops Q (o :: rest) a w := by
  refine wpList_plain hgd fun K hK => ?_
  unfold Oper.wp
  simp [execOp, ho, resolve, invoke, builtin, hs, hx, hap, Result.andThen]
  exact hK _ _ h
theorem wpList_append_to {P : Program} {w w' : World} {ops : Array Oper} {rest : List Oper} {a : Act} {Q : Exit → Act → World → Prop} {v u r : Value} {s x : Operand} {t ty : TypeId} {ps : String} {af : Array Edge} (d : Tmp) (hap : (Builtin.append_ #[t, t] ty #[v, u]).run P w = .ok r w')
    (hs : a.eval s = v) (hx : a.eval x = u) (h : wpList P ops Q rest (a.put (some d) r) w') :
    wpList P ops Q ({ dst := some d, op := .call { callee := .builtin .append, args := #[s, x], argTypes := #[t, t] }, type := ty, pos := ps, after := af, guard := none } :: rest) a w :=
  wpList_append_eq rfl s x t rfl hs hx hap h
theorem str_slice {s : ByteArray} {l : List UInt8} (hs : s = txt l) {a b : Nat} (h1 : a ≤ b) (h2 : b ≤ l.length) (W : World) : (Instr.slice 9 (.string s) (some (.int .i64 (a : Int))) (some (.int .i64 (b : Int))) none).run Try.prog W = .ok (.string (txt ((l.take b).drop a))) W := by
  have h := run_slice_string (P := Try.prog) W 9 s .i64 .i64 (a : Int) (b : Int) Try.underlying9 (by omega) (by omega) (by rw [hs, size_txt]; omega)
  rw [h, hs, Int.toNat_natCast, Int.toNat_natCast, txt_extract]
def RawAt (w : World) (A : Option Addr) (vs : List Value) : Prop := vs = [] ∨ ∃ g o, A = some ⟨g, o, none⟩ ∧ w.rangeAt g o vs
theorem RawAt.nil (w : World) (A : Option Addr) : RawAt w A [] := .inl rfl
theorem RawAt.below {w w' : World} {A : Option Addr} {vs : List Value} (h : RawAt w A vs) (hb : Below w.heap.size w w') : RawAt w' A vs := by
  rcases h with h | ⟨g, o, e, hr⟩
  · exact .inl h
  · exact .inr ⟨g, o, e, fun j v hv => by
      rw [World.cell?_of_block (hb.block g (World.block_lt_of_cell? _ _ (hr j v hv)))]
      exact hr j v hv⟩
theorem RawAt.take {w : World} {A : Option Addr} {vs : List Value} (h : RawAt w A vs) (k : Nat) : RawAt w A (vs.take k) := by
  rcases h with h | ⟨g, o, e, hr⟩
  · exact .inl (by rw [h, List.take_nil])
  · exact .inr ⟨g, o, e, fun j v hv => hr j v (by
      rw [List.getElem?_take] at hv
      split at hv
      · exact hv
      · cases hv)⟩
theorem RawAt.drop {w : World} {A : Option Addr} {vs : List Value} (h : RawAt w A vs) (k : Nat) : RawAt w (A.map (·.add k)) (vs.drop k) := by
  rcases h with h | ⟨g, o, e, hr⟩
  · exact .inl (by rw [h, List.drop_nil])
  · refine .inr ⟨g, o + k, by rw [e, Option.map_some, Addr.add_mid], fun j v hv => ?_⟩
    rw [List.getElem?_drop] at hv
    rw [Nat.add_assoc]
    exact hr (k + j) v hv
theorem RawAt.cell {w : World} {A : Option Addr} {vs : List Value} (h : RawAt w A vs) {i : Nat} {v : Value} (hv : vs[i]? = some v) : ∃ g o, A = some ⟨g, o, none⟩ ∧ w.cell? ⟨g, o + i, none⟩ = some v := by
  rcases h with h | ⟨g, o, e, hr⟩
  · rw [h] at hv
    simp at hv
  · exact ⟨g, o, e, hr i v hv⟩
theorem own_form {w : World} {base : Nat} {e : TypeId} {sz : Nat} {v : Value} {n : Nat} {vs : List Value} (h : w.ownsRow base e sz v n vs) : ∃ A c, v = .slice A n c ∧ n ≤ c ∧ RawAt w A vs ∧ vs.length = n * sz := by
  rcases h.2 with ⟨e, hn⟩ | ⟨k, cap, cur, e, hk, hg, hnc, hcm, hcs, ht⟩
  · subst hn
    exact ⟨none, 0, e, Nat.le_refl _, .inl (List.eq_nil_of_length_eq_zero (by rw [h.1, Nat.zero_mul])), h.1⟩
  · refine ⟨_, cap, e, hnc, .inr ⟨k, 0, rfl, fun j v hv => ?_⟩, h.1⟩
    rw [Nat.zero_add]
    subst e
    have := World.ownsRow.cells h (g := k) rfl j v hv
    rw [Addr.add_mid, Nat.zero_add] at this
    exact this
theorem obj_cell {w : World} {b : Nat} {cs : Array Value} {T : TypeId} {fr : Nat × Nat} (hb : w.heap[b]? = some (.cells cs T fr)) (j : Nat) : w.cell? ⟨b, j, none⟩ = cs[j]? := by
  simp [World.cell?, hb]
theorem own_base {w : World} {b0 b1 : Nat} {e : TypeId} {sz : Nat} {v : Value} {n : Nat} {vs : List Value} (h : w.ownsRow b1 e sz v n vs) (hb : b0 ≤ b1) : w.ownsRow b0 e sz v n vs := by
  refine ⟨h.1, ?_⟩
  rcases h.2 with h2 | ⟨k, cap, cur, e, hk, rest⟩
  · exact .inl h2
  · exact .inr ⟨k, cap, cur, e, Nat.le_trans hb hk, rest⟩
structure ElemOf (st e : TypeId) (sz by_ : Nat) : Prop where
  under : Try.prog.underlying st = some (.slice e)
  info : ∃ i z, Try.prog.info? e = some i ∧ i.zero = some z ∧ i.size = sz ∧ i.bytes = by_ ∧ z.cells.size = sz
  pos : 0 < sz
  small : by_ ≤ 96
theorem ElemOf.size {st e : TypeId} {sz by_ : Nat} (E : ElemOf st e sz by_) {W : World} : (sizeOf (Try.prog.elem st)).run Try.prog W = .ok sz W := by
  obtain ⟨i, z, hi, _, hs, _⟩ := E.info
  have he : Try.prog.elem st = e := by unfold Program.elem; rw [E.under]
  rw [he]
  simp [sizeOf, typeInfo, hi, hs]
theorem run_append_raw {w : World} {st e : TypeId} {sz by_ base n : Nat} {v : Value} {vs : List Value} (E : ElemOf st e sz by_) (hown : w.ownsRow base e sz v n vs) (A : Option Addr) (m c : Nat) (us : List Value) (hat : RawAt w A us) (hlen : us.length = m * sz)
    (h1 : ∀ u ∈ us, u.oneCell' = true) (hn : n + m ≤ 1099511627776) (hbase : base ≤ w.heap.size) :
    ∃ v' w', (Builtin.append_ #[st, st] st #[v, .slice A m c]).run Try.prog w = .ok v' w' ∧ w'.ownsRow base e sz v' (n + m) (vs ++ us) ∧ w.grownBy w' v.ownBlock ∧ (∀ k, v'.ownBlock = some k → v.ownBlock = some k ∨ w.heap.size ≤ k) := by
  obtain ⟨i, z, hi, hz, hsz, hby, hzs⟩ := E.info
  by_cases h0 : m = 0
  · subst h0
    have hus : us = [] := List.eq_nil_of_length_eq_zero (by rw [hlen, Nat.zero_mul])
    subst hus
    obtain ⟨B, c', rfl, hle, _, _⟩ := own_form hown
    refine ⟨_, w, ?_, by rw [List.append_nil]; exact hown, ⟨rfl, rfl, rfl, Nat.le_refl _, fun _ _ _ => rfl⟩, fun k hk => .inl hk⟩
    have h0 : ∀ a : Addr, (loadCells a 0).run Try.prog w = .ok #[] w := fun a => by
      have := run_loadCells_list (P := Try.prog) w a [] (fun j v hj => by simp at hj)
      simpa using this
    cases A <;> cases B <;> simp [h0, Builtin.append_, run_underlying E.under, sizeOf, typeInfo, hi, Builtin.lenOf, Builtin.firstCells, hle, storeCells]
  · obtain ⟨g, o, rfl, hr⟩ : ∃ g o, A = some ⟨g, o, none⟩ ∧ w.rangeAt g o us := by
      rcases hat with hat | hat
      · rw [hat] at hlen
        have := E.pos
        simp only [List.length_nil] at hlen
        exact absurd hlen.symm (Nat.mul_ne_zero h0 (by omega))
      · exact hat
    obtain ⟨gg, cc, w', hap, hown', hgrow, hwh, _⟩ := run_append_lies (P := Try.prog) w st st base e i z sz by_ E.under hi hz hsz hby hzs E.pos v n vs hown ⟨g, o, none⟩ m c us hlen
      (fun j u hu => by rw [Addr.add_mid]; exact hr j u hu) h1 (by omega) (by unfold maxLen; omega) (by have := E.small; exact Nat.le_trans (Nat.mul_le_mul_left _ this) (by omega)) hbase _ rfl
    refine ⟨_, w', hap, hown', hgrow, fun k hk => ?_⟩
    have e : some gg = some k := hk
    injection e with e
    subst e
    rcases hwh with hwh | hwh
    · exact .inl hwh
    · exact .inr (by rw [hwh]; exact Nat.le_refl _)
theorem wpList_append_raw {st e : TypeId} {sz by_ : Nat} {ops : Array Oper} {rest : List Oper} {a : Act} {Q : Exit → Act → World → Prop} {s x : Operand} {ps : String} {af : Array Edge} {w : World} {base n : Nat} {v : Value} {vs : List Value} {A : Option Addr} {m c : Nat} (d : Tmp) (us : List Value)
    (E : ElemOf st e sz by_) (hown : w.ownsRow base e sz v n vs) (hat : RawAt w A us) (hlen : us.length = m * sz) (h1 : ∀ u ∈ us, u.oneCell' = true) (hs : a.eval s = v) (hx : a.eval x = .slice A m c) (hn : n + m ≤ 1099511627776) (hbase : base ≤ w.heap.size)
    (h : ∀ v' w', w'.ownsRow base e sz v' (n + m) (vs ++ us) → Turned (fun j => v.ownBlock = some j) w w' → (∀ k, v'.ownBlock = some k → v.ownBlock = some k ∨ w.heap.size ≤ k) → wpList Try.prog ops Q rest (a.put (some d) v') w') :
    wpList Try.prog ops Q ({ dst := some d, op := .call { callee := .builtin .append, args := #[s, x], argTypes := #[st, st] }, type := st, pos := ps, after := af, guard := none } :: rest) a w := by
  obtain ⟨v', w', hap, hown', hgrow, hk⟩ := run_append_raw E hown A m c us hat hlen h1 hn hbase
  exact wpList_append_to d hap hs hx (h v' w' hown' (Turned.of_grown (S := fun j => v.ownBlock = some j) hgrow (fun k hk => hk)) hk)
end Go.Proofs.Ytncbmdbfdjhkeaa

/-
  Rows of texts that the call owns, and one more put behind. Condition: those named at each law.
-/
import Derived.Test.YtcjbhjbjkfgphaaLines
import Derived.WalkKit
import Derived.ProofKit
import Derived.Deep.AppendLies
import Derived.Deep.Draws
import Derived.Lib.Hide
import Derived.Lib.SmallJoins
import Derived.Laws.OwnMore
import Derived.Laws.Strings2
import Derived.Laws.Strings3
import Derived.WalkSpells
namespace Go.Proofs.Ytcjbhjbjkfgphaa
open Go.RowKit Go.Deep

theorem info_parts {t : TypeId} {z : Value} {s b : Nat} (h : (Try.prog.info? t).map (fun i => (i.zero, i.size, i.bytes)) = some (some z, s, b)) : ∃ i, Try.prog.info? t = some i ∧ i.zero = some z ∧ i.size = s ∧ i.bytes = b := by
  cases hi : Try.prog.info? t with
  | none => rw [hi] at h; cases h
  | some i =>
    rw [hi] at h
    simp only [Option.map_some, Option.some.injEq, Prod.mk.injEq] at h
    exact ⟨i, rfl, h.1, h.2.1, h.2.2⟩
/-- An append whose outcome is known, for the walk. -/
theorem wpList_append_eq {P : Program} {w w' : World} {ops : Array Oper} {rest : List Oper} {o : Oper} {a : Act} {Q : Exit → Act → World → Prop} {v u r : Value} (hgd : o.guard = none) (s x : Operand) (t : TypeId)
    (ho : o.op = .call { callee := .builtin .append, args := #[s, x], argTypes := #[t, t] }) (hs : a.eval s = v) (hx : a.eval x = u) (hap : (Builtin.append_ #[t, t] o.type #[v, u]).run P w = .ok r w')
    (h : wpList P ops Q rest (a.put o.dst r) w') : wpList P ops Q (o :: rest) a w := by
  refine wpList_plain hgd fun K hK => ?_
  unfold Oper.wp
  simp [execOp, ho, resolve, invoke, builtin, hs, hx, hap, Result.andThen]
  exact hK _ _ h
/-- .. the one whose outcome goes to the slot d. -/
theorem wpList_append_to {P : Program} {w w' : World} {ops : Array Oper} {rest : List Oper} {a : Act} {Q : Exit → Act → World → Prop} {v u r : Value} {s x : Operand} {t ty : TypeId} {ps : String} {af : Array Edge} (d : Tmp) (hap : (Builtin.append_ #[t, t] ty #[v, u]).run P w = .ok r w')
    (hs : a.eval s = v) (hx : a.eval x = u) (h : wpList P ops Q rest (a.put (some d) r) w') :
    wpList P ops Q ({ dst := some d, op := .call { callee := .builtin .append, args := #[s, x], argTypes := #[t, t] }, type := ty, pos := ps, after := af, guard := none } :: rest) a w :=
  wpList_append_eq rfl s x t rfl hs hx hap h

/-! ### parts of a text -/
theorem str_slice {s : ByteArray} {l : List UInt8} (hs : s = txt l) {a b : Nat} (h1 : a ≤ b) (h2 : b ≤ l.length) (W : World) : (Instr.slice 9 (.string s) (some (.int .i64 (a : Int))) (some (.int .i64 (b : Int))) none).run Try.prog W = .ok (.string (txt ((l.take b).drop a))) W := by
  have h := run_slice_string (P := Try.prog) W 9 s .i64 .i64 (a : Int) (b : Int) Try.underlying9 (by omega) (by omega) (by rw [hs, size_txt]; omega)
  rw [h, hs, Int.toNat_natCast, Int.toNat_natCast, txt_extract]
theorem str_slice_from {s : ByteArray} {l : List UInt8} (hs : s = txt l) {a : Nat} (h1 : a ≤ l.length) (W : World) : (Instr.slice 9 (.string s) (some (.int .i64 (a : Int))) none none).run Try.prog W = .ok (.string (txt (l.drop a))) W := by
  have h := run_slice_string_from_if (P := Try.prog) W 9 s .i64 (a : Int) Try.underlying9
  rw [if_pos ⟨by omega, by rw [hs, size_txt]; omega⟩] at h
  rw [h, hs, Int.toNat_natCast, size_txt, txt_extract, List.take_length]
theorem str_slice_to {s : ByteArray} {l : List UInt8} (hs : s = txt l) {b : Nat} (h1 : b ≤ l.length) (W : World) : (Instr.slice 9 (.string s) none (some (.int .i64 (b : Int))) none).run Try.prog W = .ok (.string (txt (l.take b))) W := by
  have h := run_slice_string_to_if (P := Try.prog) W 9 s .i64 (b : Int) Try.underlying9
  rw [if_pos ⟨by omega, by rw [hs, size_txt]; omega⟩] at h
  rw [h, hs, Int.toNat_natCast, txt_extract, List.drop_zero]
/-- A text's byte, as the walk reads it. -/
theorem txt_get {s : ByteArray} {l : List UInt8} (hs : s = txt l) (i : Nat) (h : i < s.size) : l[i]? = some s[i] := by
  subst hs
  have : i < l.length := by rw [size_txt] at h; exact h
  rw [List.getElem?_eq_getElem this]
  rfl

def strsV (ls : List (List UInt8)) : List Value := ls.map fun l => Value.string (txt l)
theorem length_strsV (ls : List (List UInt8)) : (strsV ls).length = ls.length := by simp [strsV]
set_option maxRecDepth 100000 in
theorem info_string : (Try.prog.info? 9).map (fun i => (i.zero, i.size, i.bytes)) = some (some (.string ⟨#[]⟩), 1, 16) := by kernel_rfl
/-- A row of texts of the call's own, or none as yet. -/
def StrsOwn (w : World) (base : Nat) (v : Value) (ls : List (List UInt8)) : Prop := w.ownsRow base 9 1 v ls.length (strsV ls)
theorem StrsOwn.nil (w : World) (base : Nat) : StrsOwn w base (.slice none 0 0) [] := World.ownsRow_nil _ _ _ _
theorem StrsOwn.turned {w w' : World} {base : Nat} {v : Value} {ls : List (List UInt8)} {T : Nat → Prop} (h : StrsOwn w base v ls) (ht : Turned T w w') (hT : ∀ k, v.ownBlock = some k → ¬ T k) : StrsOwn w' base v ls := ownsRow_turned h ht hT
theorem StrsOwn.below {w w' : World} {base : Nat} {v : Value} {ls : List (List UInt8)} (h : StrsOwn w base v ls) (hb : Below w.heap.size w w') : StrsOwn w' base v ls := h.turned (Turned.of_below (S := fun _ => False) hb) (fun _ _ h => h)
theorem StrsOwn.lt {w : World} {base : Nat} {v : Value} {ls : List (List UInt8)} (h : StrsOwn w base v ls) : ∀ k, v.ownBlock = some k → base ≤ k ∧ k < w.heap.size := fun k hk => World.ownsRow.lt h k hk
/-- .. as a slice, and its elements. -/
theorem StrsOwn.form {w : World} {base : Nat} {v : Value} {ls : List (List UInt8)} (h : StrsOwn w base v ls) : ∃ A c, v = .slice A ls.length c ∧ ∀ (i : Nat) (l : List UInt8), ls[i]? = some l → ∃ k, A = some ⟨k, 0, none⟩ ∧ w.cell? ⟨k, i, none⟩ = some (.string (txt l)) := by
  have h' := h
  rcases h.2 with ⟨e, hn⟩ | ⟨k, cap, cur, e, _⟩
  · have hl : ls = [] := List.eq_nil_of_length_eq_zero hn
    subst hl
    exact ⟨none, 0, e, fun i l hi => by simp at hi⟩
  · subst e
    refine ⟨_, cap, rfl, fun i l hi => ⟨k, rfl, ?_⟩⟩
    have hil := (List.getElem?_eq_some_iff.1 hi).1
    rw [World.ownsRow.cellAt h' i (by omega)]
    simp [strsV, hi]

set_option maxRecDepth 100000 in
/-- One text more, written out ahead of it. -/
theorem wpList_append_str {ops : Array Oper} {rest : List Oper} {a : Act} {Q : Exit → Act → World → Prop} {s x : Operand} {ps : String} {af : Array Edge} {w : World} {base : Nat} {v : Value} {ls : List (List UInt8)} {S : ByteArray} (d : Tmp) (l : List UInt8) (hown : StrsOwn w base v ls) (hS : S = txt l)
    (hs : a.eval s = v) (hx : a.eval x = .slice (some ⟨w.heap.size, 0, none⟩) 1 1) (hl : ls.length ≤ 1099511627776) (hbase : base ≤ w.heap.size)
    (h : ∀ v' w', StrsOwn w' base v' (ls ++ [l]) → Turned (fun j => v.ownBlock = some j) w w' → (∀ k, v'.ownBlock = some k → v.ownBlock = some k ∨ w.heap.size ≤ k) → wpList Try.prog ops Q rest (a.put (some d) v') w') :
    wpList Try.prog ops Q ({ dst := some d, op := .call { callee := .builtin .append, args := #[s, x], argTypes := #[46, 46] }, type := 46, pos := ps, after := af, guard := none } :: rest) a (w.alloc (.cells #[.string S] 9)) := by
  subst hS
  obtain ⟨i, hi, hz, hsz, hby⟩ := info_parts info_string
  obtain ⟨gg, cc, w', hap, hown', hgrow, hat, _⟩ := run_append_lies (P := Try.prog) (w.alloc (.cells #[.string (txt l)] 9)) 46 46 base 9 i _ 1 16 Try.underlying46 hi hz hsz hby (by rfl) (by omega) v ls.length (strsV ls) (World.ownsRow.alloc hown _) ⟨w.heap.size, 0, none⟩ 1 1 [.string (txt l)] rfl
    (fun j u hu => by
      have hj : j = 0 := by have := (List.getElem?_eq_some_iff.1 hu).1; simp at this; omega
      subst hj
      simp at hu
      subst hu
      rw [Addr.add_mid, World.cell?_alloc_mark]
      rfl) (by intro u hu; simp at hu; subst hu; rfl) (by omega) (by unfold maxLen; omega) (by omega) (by simp; omega) _ rfl
  refine wpList_append_to d hap hs hx (h _ w' ?_ ?_ ?_)
  · unfold StrsOwn
    rw [List.length_append]
    have e : strsV (ls ++ [l]) = strsV ls ++ [.string (txt l)] := by simp [strsV]
    rw [e]
    exact hown'
  · exact (Turned.of_below (S := fun j => v.ownBlock = some j) ((Below.refl w.heap.size w).alloc (Nat.le_refl _) _)).trans (Turned.of_grown (S := fun j => v.ownBlock = some j) hgrow (fun k hk => hk)) (fun _ _ h => h)
  · intro k hk
    have e : some gg = some k := hk
    injection e with e
    subst e
    rcases hat with hat | hat
    · exact .inl hat
    · right
      rw [hat]
      simp
end Go.Proofs.Ytcjbhjbjkfgphaa

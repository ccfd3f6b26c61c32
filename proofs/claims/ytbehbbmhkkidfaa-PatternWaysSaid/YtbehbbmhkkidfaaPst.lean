/-
  A law's boxes and trees as they lie, in any later world. No condition.
-/
import Derived.Test.YtbehbbmhkkidfaaPbt3
namespace Go.Proofs.Ytbehbbmhkkidfaa
open Go.RowKit Go.Deep

structure St (w W : World) (bs : List (Nat × Array Value × TypeId)) (ts : List (PN × NV)) : Prop where
  bel : Below w.heap.size w W
  obs : ∀ (n : Nat) (x : Nat × Array Value × TypeId), bs[n]? = some x → W.heap[x.1]? = some (.cells x.2.1 x.2.2 (0, 0))
  trs : ∀ (n : Nat) (x : PN × NV), ts[n]? = some x → IsP (fun _ => False) W x.1 x.2
theorem St.start (w : World) : St w w [] [] := ⟨Below.refl _ _, fun n x h => by simp at h, fun n x h => by simp at h⟩
theorem St.next {w W W' : World} {bs : List (Nat × Array Value × TypeId)} {ts : List (PN × NV)} (h : St w W bs ts) (hb : Below W.heap.size W W') : St w W' bs ts :=
  ⟨h.bel.trans (hb.mono h.bel.size), fun n x hx => Below.obj hb (h.obs n x hx) (lt_of_some (h.obs n x hx)), fun n x hx => (h.trs n x hx).stays hb⟩
theorem St.box {w W : World} {bs : List (Nat × Array Value × TypeId)} {ts : List (PN × NV)} (h : St w W bs ts) (cs : Array Value) (T : TypeId) : St w (W.alloc (.cells cs T)) ((W.heap.size, cs, T) :: bs) ts := by
  have h2 := h.next (bA W (.cells cs T))
  refine ⟨h2.bel, fun n x hx => ?_, h2.trs⟩
  cases n with
  | zero =>
    simp at hx
    subst hx
    exact new_obj W _
  | succ n => exact h2.obs n x (by simpa using hx)
theorem St.tree {w W : World} {bs : List (Nat × Array Value × TypeId)} {ts : List (PN × NV)} (h : St w W bs ts) {S : Nat → Prop} {t : PN} {y : NV} (ht : IsP S W t y) : St w W bs ((t, y) :: ts) := by
  refine ⟨h.bel, h.obs, fun n x hx => ?_⟩
  cases n with
  | zero =>
    simp at hx
    subst hx
    exact ht.weaken fun k h => h.elim
  | succ n => exact h.trs n x (by simpa using hx)
theorem St.put {w W : World} {bs : List (Nat × Array Value × TypeId)} {ts : List (PN × NV)} (h : St w W bs ts) {b : Nat} {cs : Array Value} {T : TypeId} (ho : W.heap[b]? = some (.cells cs T (0, 0))) : St w W ((b, cs, T) :: bs) ts := by
  refine ⟨h.bel, fun n x hx => ?_, h.trs⟩
  cases n with
  | zero =>
    simp at hx
    subst hx
    exact ho
  | succ n => exact h.obs n x (by simpa using hx)
theorem St.ob {w W : World} {bs : List (Nat × Array Value × TypeId)} {ts : List (PN × NV)} (h : St w W bs ts) (n : Nat) {b : Nat} {cs : Array Value} {T : TypeId} (hx : bs[n]? = some (b, cs, T)) : W.heap[b]? = some (.cells cs T (0, 0)) := h.obs n _ hx
theorem St.tr {w W : World} {bs : List (Nat × Array Value × TypeId)} {ts : List (PN × NV)} (h : St w W bs ts) (n : Nat) {t : PN} {y : NV} (hx : ts[n]? = some (t, y)) : IsP (fun _ => False) W t y := h.trs n _ hx
theorem node_box {W : World} {b : Nat} {y : NV} {T : TypeId} (ho : W.heap[b]? = some (.cells #[.int .i64 y.kind, .int .u64 (y.set 0), .int .u64 (y.set 1), .int .u64 (y.set 2), .int .u64 (y.set 3), .int .i64 y.lo, .int .i64 y.hi, .int .i64 y.num, .slice y.A y.n y.c] T (0, 0))) : W.cell? ⟨b, 0, none⟩ = some (.int .i64 y.kind) ∧ W.cell? ⟨b, 1, none⟩ = some (.int .u64 (y.set 0)) ∧ W.cell? ⟨b, 2, none⟩ = some (.int .u64 (y.set 1)) ∧ W.cell? ⟨b, 3, none⟩ = some (.int .u64 (y.set 2)) ∧ W.cell? ⟨b, 4, none⟩ = some (.int .u64 (y.set 3)) ∧ W.cell? ⟨b, 5, none⟩ = some (.int .i64 y.lo) ∧ W.cell? ⟨b, 6, none⟩ = some (.int .i64 y.hi) ∧ W.cell? ⟨b, 7, none⟩ = some (.int .i64 y.num) ∧ W.cell? ⟨b, 8, none⟩ = some (.slice y.A y.n y.c) := by
  refine ⟨?_, ?_, ?_, ?_, ?_, ?_, ?_, ?_, ?_⟩ <;> (rw [obj_cell ho]; rfl)
end Go.Proofs.Ytbehbbmhkkidfaa
/-
  PatternWays, as data: how long its texts are, how many kids its trees have. No condition.
-/
namespace Go.Proofs.Ytbehbbmhkkidfaa
open Go.RowKit

theorem digB_len (n : Nat) : (digB n).length ≤ 2 := by
  unfold digB
  split <;> simp
theorem slB_len (ext : Bool) : (slB ext).length ≤ 1 := by
  unfold slB
  split <;> simp
theorem ivB_len (lo : Nat) (hi : Int) : (ivB lo hi).length ≤ 5 := by
  have h1 := digB_len lo
  have h2 := digB_len hi.toNat
  unfold ivB
  rw [List.length_append]
  split
  · simp; omega
  · split <;> simp <;> omega
theorem repB_len (ext : Bool) (rep : Option (Nat × Int)) : (repB' ext rep).length ≤ 9 := by
  have h1 := slB_len ext
  cases rep with
  | none => simp [repB']
  | some p =>
    have h2 := ivB_len p.1 p.2
    simp only [repB']
    split
    · simp
    · simp only [List.length_append, List.length_cons, List.length_nil]
      omega
mutual
theorem shB_len (ext : Bool) : ∀ s : Sh, (shB ext s).length ≤ 16 * pcS s
  | .mk grp c rep ks => by
    have h1 := shBL_len ext ks
    have h2 := repB_len ext rep
    have h3 := slB_len ext
    rw [shB, pcS, List.length_append]
    split
    · simp only [List.length_append, List.length_cons, List.length_nil]
      omega
    · simp only [List.length_cons, List.length_nil]
      omega
theorem shBL_len (ext : Bool) : ∀ l : List Sh, (shBL ext l).length ≤ 16 * pcL l
  | [] => by simp [shBL]
  | s :: r => by
    have h1 := shB_len ext s
    have h2 := shBL_len ext r
    rw [shBL, pcL, List.length_append]
    omega
end
theorem few_none (k : Int) (T : Nat → Nat) (lo hi num : Int) : Few (.mk k T lo hi num []) := .mk _ _ _ _ _ _ (Nat.zero_le _) fun t h => by cases h
theorem few_joined {l : List PN} (h : ∀ t ∈ l, Few t) (hl : l.length ≤ 4096) : Few (joinK 2 l) := by
  unfold joinK
  split
  · exact h _ (List.mem_cons_self ..)
  · exact .mk _ _ _ _ _ _ hl h
theorem few_single {k : Int} {T : Nat → Nat} {lo hi num : Int} {t : PN} (h : Few t) : Few (.mk k T lo hi num [t]) := .mk _ _ _ _ _ _ (by simp) fun u hu => by
  rw [List.mem_singleton] at hu
  rw [hu]
  exact h
mutual
theorem few_sh : ∀ (s : Sh) (g : Nat), thinS s → Few (shP s g)
  | .mk grp c rep ks, g, h => by
    rw [thinS.eq_1] at h
    have hk := few_shL ks (g + 1) h.2
    have ha : Few (atomP grp c g (shPL ks (g + 1))) := by
      unfold atomP
      split
      · exact few_single (few_joined hk (by rw [shPL_len]; omega))
      · exact few_none _ _ _ _ _
    rw [shP]
    cases rep with
    | none => exact ha
    | some p => exact few_single ha
theorem few_shL : ∀ (l : List Sh) (g : Nat), thinL l → ∀ t ∈ shPL l g, Few t
  | [], g, _, t, ht => by simp [shPL] at ht
  | s :: r, g, h, t, ht => by
    rw [thinL.eq_2] at h
    rw [shPL, List.mem_cons] at ht
    rcases ht with rfl | ht
    · exact few_sh s g h.1
    · exact few_shL r _ h.2 t ht
end
end Go.Proofs.Ytbehbbmhkkidfaa

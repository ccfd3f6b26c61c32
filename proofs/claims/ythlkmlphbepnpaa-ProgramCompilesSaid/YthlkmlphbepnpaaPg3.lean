/-
  Package program's stack of open braces: what is on its top, and which brace closes which. Condition: at most a million commands.
-/
import Derived.Test.YthlkmlphbepnpaaPg2
import Derived.Test.YthlkmlphbepnpaaPgo
namespace Go.Proofs.Ythlkmlphbepnpaa
open Go.RowKit Go.Deep

theorem elem_int : ElemOf 38 3 1 8 := by
  obtain ⟨i, hi, hz, hs, hb⟩ := info_parts info_int
  exact ⟨Try.underlying38, ⟨i, _, hi, hz, hs, hb, rfl⟩, by omega, by omega⟩
def intV (i : Nat) : Value := .int .i64 (i : Int)
/-- A stack of numbers, the last one first, in a row of the call's own. -/
def StkOwn (w : World) (B : Nat) (v : Value) (s : List Nat) : Prop := w.ownsRow B 3 1 v s.length (s.reverse.map intV)
theorem StkOwn.nil (w : World) (B : Nat) : StkOwn w B (.slice none 0 0) [] := ⟨rfl, .inl ⟨rfl, rfl⟩⟩
theorem StkOwn.top {w : World} {B : Nat} {v : Value} {b : Nat} {t : List Nat} (h : StkOwn w B v (b :: t)) : ∃ g c, v = .slice (some ⟨g, 0, none⟩) (t.length + 1) c ∧ w.cell? ⟨g, t.length, none⟩ = some (intV b) ∧ t.length + 1 ≤ c := by
  rcases h.2 with ⟨_, h0⟩ | ⟨g, cap, cur, e, _, hg, hn, hc, hs, ht⟩
  · simp at h0
  · refine ⟨g, cap, e, ?_, hn⟩
    rw [obj_cell hg]
    have h1 : ((b :: t).reverse.map intV)[t.length]? = some (intV b) := by
      simp
    rw [← ht, List.getElem?_take] at h1
    split at h1
    · simpa using h1
    · cases h1
theorem StkOwn.pop {w : World} {B : Nat} {g c b : Nat} {t : List Nat} (h : StkOwn w B (.slice (some ⟨g, 0, none⟩) (t.length + 1) c) (b :: t)) : StkOwn w B (.slice (some ⟨g, 0, none⟩) t.length c) t := by
  refine ⟨by simp, ?_⟩
  rcases h.2 with ⟨h0, _⟩ | ⟨g', cap, cur, e, hB, hg, hn, hc, hs, ht⟩
  · cases h0
  · injection e with e1 e2 e3
    injection e1 with e1
    injection e1 with e1
    subst e1
    subst e3
    refine .inr ⟨g, c, cur, rfl, hB, hg, by simp at hn; omega, hc, hs, ?_⟩
    have h1 := congrArg (List.take (t.length * 1)) ht
    rw [List.take_take] at h1
    simp only [List.length_cons, Nat.mul_one] at h1 ⊢
    rw [Nat.min_eq_left (by omega)] at h1
    rw [h1, List.reverse_cons, List.map_append, List.take_append_of_le_length (by simp), List.take_of_length_le (by simp)]
def topV : List Nat → Int
  | [] => -1
  | b :: _ => (b : Int)
set_option maxRecDepth 100000 in
theorem top_is {w : World} {B : Nat} {v : Value} {s : List Nat} (h : StkOwn w B v s) (hs : s.length ≤ 1048576) : Calls Try.prog 28 #[v] w fun e w' => e = .returned (.int .i64 (topV s)) ∧ w' = w := by
  cases s with
  | nil =>
    obtain ⟨A, c, rfl, _⟩ := own_form h
    go_enter Try.func28, Try.ntmps28
    go_wp2_with fail
    go_ret
    exact ⟨rfl, rfl⟩
  | cons b t =>
    obtain ⟨g, c, rfl, hc, hle⟩ := h.top
    have ht : t.length + 1 ≤ 1048576 := hs
    have e0 : (((t.length + 1 : Nat) : Int) == 0) = false := by rw [beq_eq_false_iff_ne]; omega
    have e1 : (t.length + 1 == 0) = false := by rw [beq_eq_false_iff_ne]; omega
    have e2 : IntKind.i64.wrap (((t.length + 1 : Nat) : Int) - 1) = (t.length : Int) := by rw [IntWalk.i64_in _ (by omega)]; omega
    have hlt : t.length < t.length + 1 := Nat.lt_succ_self _
    obtain ⟨n, hn⟩ : ∃ n, n = t.length := ⟨_, rfl⟩
    obtain ⟨n1, hn1⟩ : ∃ n1, n1 = t.length + 1 := ⟨_, rfl⟩
    rw [← hn1] at e0 e1 e2 ht ⊢
    rw [← hn] at hc e2
    have hlt : n < n1 := by omega
    have hnn : (n : Int) < (n1 : Int) := by omega
    unfold intV at hc
    clear h hs hle hn hn1
    go_enter Try.func28, Try.ntmps28
    go_wp2_with fail
    go_ret
    exact ⟨rfl, rfl⟩
/-- The jumps, in a row of n numbers. -/
def jc (n : Nat) (J : Nat → Int) : Array Value := ((List.range n).map fun i => Value.int .i64 (J i)).toArray
def JAt (w : World) (g n : Nat) (J : Nat → Int) : Prop := w.heap[g]? = some (.cells (jc n J) 3 (0, 0))
theorem jc_get {n i : Nat} (J : Nat → Int) (h : i < n) : (jc n J)[i]? = some (.int .i64 (J i)) := by simp [jc, h]
theorem JAt.cell {w : World} {g n : Nat} {J : Nat → Int} (h : JAt w g n J) {i : Nat} (hi : i < n) : w.cell? ⟨g, i, none⟩ = some (.int .i64 (J i)) ∧ w.frozen? ⟨g, i, none⟩ = false := by
  exact ⟨by rw [obj_cell h]; exact jc_get J hi, frozen_of_row w g i _ _ h⟩
theorem JAt.put {w : World} {g n : Nat} {J : Nat → Int} (h : JAt w g n J) (i : Nat) (v : Int) : JAt (w.setCell ⟨g, i, none⟩ (.int .i64 v)) g n (fun b => if b = i then v else J b) := by
  unfold JAt
  rw [heap_setCell_same w g i (jc n J) _ _ h]
  congr 2
  apply Array.ext_getElem?
  intro k
  rw [Array.getElem?_setIfInBounds]
  by_cases hk : k < n
  · by_cases hik : i = k
    · subst hik
      simp [jc, hk]
    · rw [if_neg hik, jc_get _ hk, jc_get _ hk, if_neg (fun e => hik e.symm)]
  · have h1 : (jc n J).size = n := by simp [jc]
    have h2 : (jc n fun b => if b = i then v else J b)[k]? = none := Array.getElem?_eq_none (by simp [jc]; omega)
    rw [h2]
    split
    · split
      · omega
      · rfl
    · exact Array.getElem?_eq_none (by omega)
theorem JAt.stays {w w' : World} {g n : Nat} {J : Nat → Int} (h : JAt w g n J) (hb : Below w.heap.size w w') : JAt w' g n J := (hb.block g (lt_of_some h)).trans h
theorem turned_set {S : Nat → Prop} {w w' : World} (h : Turned S w w') (a : Addr) (v : Value) (ha : S a.block) : Turned S w (w'.setCell a v) :=
  ⟨h.os, h.tape, h.output, by rw [show (w'.setCell a v).heap.size = w'.heap.size by simp [World.setCell]]; exact h.size, fun k hk hn => (heap_setCell_other w' a k v (fun e => hn (e ▸ ha))).trans (h.block k hk hn)⟩
theorem own_set {w : World} {B : Nat} {v : Value} {s : List Nat} (h : StkOwn w B v s) (a : Addr) (u : Value) (ha : a.block < B) : StkOwn (w.setCell a u) B v s := by
  refine ⟨h.1, ?_⟩
  rcases h.2 with h0 | ⟨g, cap, cur, e, hB, hg, rest⟩
  · exact .inl h0
  · exact .inr ⟨g, cap, cur, e, hB, (heap_setCell_other w a g u (by omega)).trans hg, rest⟩
end Go.Proofs.Ythlkmlphbepnpaa

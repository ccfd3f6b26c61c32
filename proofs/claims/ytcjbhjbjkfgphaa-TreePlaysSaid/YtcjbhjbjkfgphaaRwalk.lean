/-
  The program's iterator over a rope's parts: walk, the closure, and parts: the pieces of the bytes asked for, in order. Conditions: the rope is no longer than 65536 bytes; the loop's body keeps what lay ahead of it.
-/
import Derived.RangeFuncKeeps
import Derived.RangeFuncBound
import Derived.RangeFuncLeaves
import Derived.Shelf.Abstract
import Derived.OwnWalkIn
import Derived.TacticsInMore
import Derived.Test.YtcjbhjbjkfgphaaRdiv
namespace Go.Proofs.Ytcjbhjbjkfgphaa
open Go.RowKit Go.Deep Go.Shelf

attribute [local go_sem] Oper.semAt_some

/-- A piece of a text. -/
abbrev Pc := { x : List UInt8 // x.length ≤ 65536 }
def pc (l : List UInt8) : Pc := ⟨l.take 65536, by rw [List.length_take]; omega⟩
theorem pc_is {l : List UInt8} (h : l.length ≤ 65536) : (pc l).1 = l := List.take_of_length_le h
def encPc (x : Pc) : Array Value := #[.string (txt x.1)]
/-- The pieces of the bytes from i up to j, part by part. -/
def RT.pcs : RT → Int → Int → List Pc
  | .part s, i, j => if j ≤ i then [] else [pc ((s.take j.toNat).drop i.toNat)]
  | .node a b, i, j => if j ≤ i then [] else a.pcs i (if (a.text.length : Int) < j then (a.text.length : Int) else j) ++ b.pcs ((if i < (a.text.length : Int) then (a.text.length : Int) else i) - (a.text.length : Int)) (j - (a.text.length : Int))
def flat (xs : List Pc) : List UInt8 := (xs.map (·.1)).flatten
theorem flat_append (a b : List Pc) : flat (a ++ b) = flat a ++ flat b := by simp [flat]
theorem pcs_flat : ∀ (t : RT) (i j : Int), 0 ≤ i → j ≤ (t.text.length : Int) → t.text.length ≤ 65536 → flat (t.pcs i j) = (t.text.take j.toNat).drop i.toNat
  | .part s, i, j, hi, hj, hl => by
    simp only [RT.pcs, RT.text] at hj hl ⊢
    by_cases h : j ≤ i
    · rw [if_pos h, List.drop_of_length_le (by rw [List.length_take]; omega)]
      rfl
    · rw [if_neg h]
      simp only [flat, List.map_cons, List.map_nil, List.flatten_cons, List.flatten_nil, List.append_nil]
      exact pc_is (by rw [List.length_drop, List.length_take]; omega)
  | .node a b, i, j, hi, hj, hl => by
    simp only [RT.pcs, RT.text, List.length_append] at hj hl ⊢
    by_cases h : j ≤ i
    · rw [if_pos h, List.drop_of_length_le (by rw [List.length_take]; omega)]
      rfl
    · rw [if_neg h, flat_append, pcs_flat a _ _ hi (by split <;> omega) (by omega), pcs_flat b _ _ (by split <;> omega) (by omega) (by omega)]
      by_cases h1 : (a.text.length : Int) < j
      · rw [if_pos h1]
        by_cases h2 : i < (a.text.length : Int)
        · rw [if_pos h2, cut_both (by omega) (by omega), Int.toNat_natCast, show ((a.text.length : Int) - (a.text.length : Int)).toNat = 0 by omega, show (j - (a.text.length : Int)).toNat = j.toNat - a.text.length by omega]
        · rw [if_neg h2, cut_right (by omega), List.drop_of_length_le (by rw [List.length_take]; omega), List.nil_append, show (i - (a.text.length : Int)).toNat = i.toNat - a.text.length by omega, show (j - (a.text.length : Int)).toNat = j.toNat - a.text.length by omega]
      · rw [if_neg h1, cut_left (by omega), show (j - (a.text.length : Int)).toNat = 0 by omega, List.take_zero, List.drop_nil, List.append_nil]
theorem pcs_count : ∀ (t : RT) (i j : Int), 0 ≤ i → j ≤ (t.text.length : Int) → t.text.length ≤ 65536 → (t.pcs i j).length ≤ (flat (t.pcs i j)).length
  | .part s, i, j, hi, hj, hl => by
    simp only [RT.pcs, RT.text] at hj hl ⊢
    by_cases h : j ≤ i
    · rw [if_pos h]
      simp
    · rw [if_neg h]
      simp only [flat, List.map_cons, List.map_nil, List.flatten_cons, List.flatten_nil, List.append_nil, List.length_cons, List.length_nil]
      rw [pc_is (by rw [List.length_drop, List.length_take]; omega), List.length_drop, List.length_take]
      omega
  | .node a b, i, j, hi, hj, hl => by
    simp only [RT.pcs, RT.text, List.length_append] at hj hl ⊢
    by_cases h : j ≤ i
    · rw [if_pos h]
      simp
    · rw [if_neg h, flat_append, List.length_append, List.length_append]
      have h1 := pcs_count a i (if (a.text.length : Int) < j then (a.text.length : Int) else j) hi (by split <;> omega) (by omega)
      have h2 := pcs_count b ((if i < (a.text.length : Int) then (a.text.length : Int) else i) - (a.text.length : Int)) (j - (a.text.length : Int)) (by split <;> omega) (by omega) (by omega)
      omega
theorem pcs_le (t : RT) (i j : Int) (hi : 0 ≤ i) (hj : j ≤ (t.text.length : Int)) (hl : t.text.length ≤ 65536) : (t.pcs i j).length ≤ 65536 := by
  have h := pcs_count t i j hi hj hl
  rw [pcs_flat t i j hi hj hl, List.length_drop, List.length_take] at h
  omega

theorem room_of_none {F : Fence} (hd : F.depth = none) (k : Nat) : F.room k := fun d h => by rw [hd] at h; cases h
theorem yieldAt_depth {F : Fence} (hd : F.depth = none) {m : Nat} (m' : Nat) {P : Program} {l : Nat} {args : Array Value} {W : World} {R : Ending → World → Prop} (h : YieldAt F m P l args W R) : YieldAt F m' P l args W R := by
  obtain ⟨fn, tmps, assign, body, hy, hR⟩ := h
  exact ⟨fn, tmps, assign, body, hy, ⟨hR.1, fun c cs _ => hR.2 c cs (room_of_none hd _)⟩⟩

set_option maxRecDepth 100000 in
set_option maxHeartbeats 2000000 in
theorem walk_in (F : Fence) (hd : F.depth = none) (hf : F.fn 65) (hro : F.round = none) (l N : Nat) (W0 : World) (J Jx : List Pc → World → Prop)
    (hY : ∀ m pre x W, J pre W → pre.length < N → YieldAt F m Try.prog l (encPc x) W fun e W' =>
      (e = .returned (.bool true) ∧ J (pre ++ [x]) W' ∧ Below W0.heap.size W W') ∨ (e = .returned (.bool false) ∧ Jx (pre ++ [x]) W')) (T : RT) :
    ∀ (n : Nat) (b : Nat) (i j : Int) (pre : List Pc) (W : World), IsRT W0 b T → Below W0.heap.size W0 W → J pre W → 0 ≤ i → i ≤ 65536 → j ≤ (T.text.length : Int) → T.text.length ≤ 65536 → pre.length + (T.pcs i j).length ≤ N →
      CallsIn F n Try.prog 65 #[.pointer (some ⟨b, 0, none⟩), .int .i64 i, .int .i64 j, .func (.yield l) #[] #[]] W fun e W' =>
        (e = .returned (.bool true) ∧ J (pre ++ T.pcs i j) W' ∧ Below W0.heap.size W W') ∨ (e = .returned (.bool false) ∧ ∃ q, q <+: T.pcs i j ∧ Jx (pre ++ q) W') := by
  have hdd : ∀ k : Nat, (F.depth.isSome = true → 1 ≤ k) := fun k h => by rw [hd] at h; cases h
  induction T with
  | part s =>
    intro n b i j pre W ht hb hJ hi hi2 hj hl hN
    simp only [RT.text] at hj hl
    by_cases h : j ≤ i
    · have e : (RT.part s).pcs i j = [] := by simp only [RT.pcs]; rw [if_pos h]
      rw [e] at hN ⊢
      have g1 : decide (j ≤ i) = true := by simp [h]
      have HJ := Lib.hid hJ
      clear hY ht hb hJ hi hi2 hj hl hN e h
      refine callsIn_of_wp Try.func65 rfl hf ?_ hro
      simp only [Try.ntmps65, List.size_toArray, List.length_cons, List.length_nil, Nat.reduceAdd, Nat.reduceSub, Array.replicate_succ, Array.replicate_zero, List.push_toArray, List.append_toArray, List.nil_append, List.cons_append]
      gi_wp2
      go_ret
      exact .inl ⟨rfl, by rw [List.append_nil]; exact HJ.out, Below.refl _ _⟩
    · obtain ⟨a, rfl⟩ := Int.eq_ofNat_of_zero_le hi
      obtain ⟨c, rfl⟩ := Int.eq_ofNat_of_zero_le (show 0 ≤ j by omega)
      have e : (RT.part s).pcs (a : Int) (c : Int) = [pc ((s.take c).drop a)] := by simp only [RT.pcs]; rw [if_neg h, Int.toNat_natCast, Int.toNat_natCast]
      rw [e] at hN ⊢
      have htr := ht.below hb
      have c0 : W.cell? ⟨b, 0, none⟩ = some (.string (txt s)) := cell_of_obj htr 0
      have c5 : W.cell? ⟨b, 5, none⟩ = some (.int .i64 0) := htr.depthC
      obtain ⟨S, eS⟩ : ∃ S, S = txt s := ⟨_, rfl⟩
      rw [← eS] at c0
      have hsl := fun W => str_slice eS (a := a) (b := c) (by omega) (by omega) W
      obtain ⟨D, eD⟩ : ∃ D, D = txt ((s.take c).drop a) := ⟨_, rfl⟩
      rw [← eD] at hsl
      have hy := hY (n - 1) pre (pc ((s.take c).drop a)) W hJ (by simp at hN; omega)
      rw [show encPc (pc ((s.take c).drop a)) = #[.string D] by rw [eD]; simp only [encPc]; rw [pc_is (by rw [List.length_drop, List.length_take]; omega)]] at hy
      obtain ⟨fn, tmps, assign, body, hyr, hR⟩ := hy
      have g1 : decide ((c : Int) ≤ (a : Int)) = false := by simp; omega
      have g1n : decide (c ≤ a) = false := by simp; omega
      have hac : (a : Int) ≤ (c : Int) := by omega
      clear hY ht hb hJ hi hi2 hj hl hN e htr eS eD h
      refine callsIn_of_wp Try.func65 rfl hf ?_ hro
      simp only [Try.ntmps65, List.size_toArray, List.length_cons, List.length_nil, Nat.reduceAdd, Nat.reduceSub, Array.replicate_succ, Array.replicate_zero, List.push_toArray, List.append_toArray, List.nil_append, List.cons_append]
      gi_wp2_with ((try refine ⟨hdd _, ?_⟩); refine hR.mono ?_; clear hR; rintro e W2 (⟨rfl, hJ2, hb2⟩ | ⟨rfl, hx2⟩))
      · go_ret
        exact .inl ⟨rfl, hJ2, hb2⟩
      · go_ret
        exact .inr ⟨rfl, _, List.prefix_refl _, hx2⟩
  | node tl tr ihl ihr =>
    intro n b i j pre W ht hb hJ hi hi2 hj hl hN
    simp only [RT.text, List.length_append] at hj hl
    by_cases h : j ≤ i
    · have e : (RT.node tl tr).pcs i j = [] := by simp only [RT.pcs]; rw [if_pos h]
      rw [e] at hN ⊢
      have g1 : decide (j ≤ i) = true := by simp [h]
      have HJ := Lib.hid hJ
      clear hY ht hb hJ hi hi2 hj hl hN e h ihl ihr
      refine callsIn_of_wp Try.func65 rfl hf ?_ hro
      simp only [Try.ntmps65, List.size_toArray, List.length_cons, List.length_nil, Nat.reduceAdd, Nat.reduceSub, Array.replicate_succ, Array.replicate_zero, List.push_toArray, List.append_toArray, List.nil_append, List.cons_append]
      gi_wp2
      go_ret
      exact .inl ⟨rfl, by rw [List.append_nil]; exact HJ.out, Below.refl _ _⟩
    · obtain ⟨xl, xr, hx, hL, hR0⟩ := ht
      have hd0 : ((1 + max tl.depth tr.depth : Nat) : Int) = ((RT.node tl tr).depth : Int) := rfl
      obtain ⟨d, ed⟩ : ∃ d, d = (RT.node tl tr).depth := ⟨_, rfl⟩
      obtain ⟨m, em⟩ : ∃ m, m = tl.text.length := ⟨_, rfl⟩
      obtain ⟨j1, ej1⟩ : ∃ x : Int, x = if (m : Int) < j then (m : Int) else j := ⟨_, rfl⟩
      obtain ⟨i1, ei1⟩ : ∃ x : Int, x = if i < (m : Int) then (m : Int) else i := ⟨_, rfl⟩
      obtain ⟨i2, ei2⟩ : ∃ x : Int, x = i1 - (m : Int) := ⟨_, rfl⟩
      obtain ⟨j2, ej2⟩ : ∃ x : Int, x = j - (m : Int) := ⟨_, rfl⟩
      have e : (RT.node tl tr).pcs i j = tl.pcs i j1 ++ tr.pcs i2 j2 := by
        simp only [RT.pcs]
        rw [if_neg h, ← em, ← ej1, ← ei1, ← ei2, ← ej2]
      rw [e] at hN ⊢
      rw [List.length_append] at hN
      have hj1 : j1 ≤ (m : Int) := by rw [ej1]; split <;> omega
      have hi1 : (m : Int) ≤ i1 ∧ i1 ≤ 65536 := by rw [ei1]; split <;> omega
      have k1 : min j (m : Int) = j1 := by rw [ej1]; split <;> omega
      have k2 : max i (m : Int) = i1 := by rw [ei1]; split <;> omega
      have hcell : ∀ V, Below W0.heap.size W0 V → V.cell? ⟨b, 1, none⟩ = some (.pointer (some ⟨xl, 0, none⟩)) ∧ V.cell? ⟨b, 2, none⟩ = some (.pointer (some ⟨xr, 0, none⟩)) ∧ V.cell? ⟨b, 5, none⟩ = some (.int .i64 (d : Int)) ∧ V.cell? ⟨xl, 3, none⟩ = some (.int .i64 (m : Int)) := fun V hV =>
        ⟨(node_cells hx hV).1, (node_cells hx hV).2, ed ▸ top_depth (show IsRT W0 b (.node tl tr) from ⟨xl, xr, hx, hL, hR0⟩) hV, em ▸ (hL.below hV).sizeC⟩
      obtain ⟨c1, c2, c5, c3⟩ := hcell W hb
      have gd : ((d : Int) == 0) = false := by simp only [RT.depth] at ed; simp; omega
      have g1 : decide (j ≤ i) = false := by simp; omega
      have q1 : IntKind.i64.wrap (i1 - (m : Int)) = i2 := by rw [← ei2]; exact IntWalk.i64_in _ (by omega)
      have q2 : IntKind.i64.wrap (j - (m : Int)) = j2 := by rw [← ej2]; exact IntWalk.i64_in _ (by omega)
      have u1 : wrap64 (i1 - (m : Int)) = i2 := by rw [← ei2]; exact IntWalk.wrap64_in _ (by omega)
      have u2 : wrap64 (j - (m : Int)) = j2 := by rw [← ej2]; exact IntWalk.wrap64_in _ (by omega)
      have ih1 := (ihl (n - 1) xl i j1 pre W hL hb hJ hi hi2 (by omega) (by omega) (by omega)).mono (R' := fun e W1 =>
          (e = .returned (.bool true) ∧ W1.cell? ⟨b, 2, none⟩ = some (.pointer (some ⟨xr, 0, none⟩)) ∧ Below W0.heap.size W0 W1 ∧ Below W0.heap.size W W1 ∧ J (pre ++ tl.pcs i j1) W1) ∨
          (e = .returned (.bool false) ∧ ∃ q, q <+: tl.pcs i j1 ∧ Jx (pre ++ q) W1))
        (fun e W1 h => h.elim (fun ⟨he, hj, hb1⟩ => .inl ⟨he, (hcell W1 (hb.trans hb1)).2.1, hb.trans hb1, hb1, hj⟩) .inr)
      have ih2 := Lib.hid fun (W1 : World) (hB : Below W0.heap.size W0 W1) (hj1 : J (pre ++ tl.pcs i j1) W1) => ihr (n - 1) xr i2 j2 (pre ++ tl.pcs i j1) W1 hR0 hB hj1 (by omega) (by omega) (by omega) (by omega) (by rw [List.length_append]; omega)
      clear hY hb hJ hi hi2 hj hl hN e hx hL hR0 ed em ej1 ei1 ei2 ej2 hj1 hi1 hcell h ihl ihr hd0
      refine callsIn_of_wp Try.func65 rfl hf ?_ hro
      simp only [Try.ntmps65, List.size_toArray, List.length_cons, List.length_nil, Nat.reduceAdd, Nat.reduceSub, Array.replicate_succ, Array.replicate_zero, List.push_toArray, List.append_toArray, List.nil_append, List.cons_append]
      gi_wp2_with (first
        | ((try refine ⟨hdd _, ?_⟩); gi_at_call 65; (with_reducible refine ih1.mono ?_); clear ih1; rintro e W1 (⟨rfl, c2', hB1, hb1, hJ1⟩ | ⟨rfl, q, hq, hx1⟩))
        | ((try refine ⟨hdd _, ?_⟩); gi_at_call 65; (with_reducible refine (ih2.out _ hB1 hJ1).mono ?_); clear ih2; rintro e W3 (⟨rfl, hJ3, hb3⟩ | ⟨rfl, q, hq, hx3⟩)))
      · go_ret
        exact .inl ⟨rfl, by rw [← List.append_assoc]; exact hJ3, hb1.trans hb3⟩
      · go_ret
        obtain ⟨r, hr'⟩ := hq
        exact .inr ⟨rfl, tl.pcs i j1 ++ q, ⟨r, by rw [List.append_assoc, hr']⟩, by rw [← List.append_assoc]; exact hx3⟩
      · go_ret
        exact .inr ⟨rfl, q, hq.trans (List.prefix_append _ _), hx1⟩
end Go.Proofs.Ytcjbhjbjkfgphaa

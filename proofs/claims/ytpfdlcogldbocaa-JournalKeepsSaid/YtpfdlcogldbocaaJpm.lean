/-
  A region's bytes zeroed behind its first n, block by block from the last one on, as plain lists: which blocks turn, and what the bytes are behind each. No condition.
-/
import Derived.Test.YtpfdlcogldbocaaModel
import Derived.Test.YtpfdlcogldbocaaJp1
namespace Go.Proofs.Ytpfdlcogldbocaa
open Go.RowKit Go.Maps

theorem zb_ahead {n i : Nat} {b : List UInt8} (h : b.length = 32) (hi : 32 * (i + 1) ≤ n) : zb n i b = b := by
  unfold zb
  rw [List.take_of_length_le (by omega), show 32 - (n - 32 * i) = 0 by omega, List.replicate_zero, List.append_nil]
theorem zb_same {n i : Nat} {b : List UInt8} (h : b.length = 32) : zb n i b = b ↔ ∀ x ∈ b.drop (n - 32 * i), x = 0 := by
  obtain ⟨q, eq⟩ : ∃ q, q = n - 32 * i := ⟨_, rfl⟩
  unfold zb
  rw [← eq]
  constructor
  · intro e x hx
    have e2 := List.append_cancel_left (e.trans (List.take_append_drop q b).symm)
    rw [← e2] at hx
    exact List.eq_of_mem_replicate hx
  · intro hz
    have e : b.drop q = List.replicate (32 - q) 0 := List.eq_replicate_iff.2 ⟨by rw [List.length_drop, h], hz⟩
    rw [← e, List.take_append_drop]
/-- Blocks ahead of n stay. -/
theorem zto_stop {C : Int → List UInt8} (h32 : All32 C) (f k n : Nat) : ∀ j, k - n / 32 ≤ j → j ≤ k → zto C f k n j = zto C f k n (k - n / 32)
  | 0, h, _ => by rw [show k - n / 32 = 0 by omega]
  | j + 1, h, hk => by
    by_cases e : k - n / 32 = j + 1
    · rw [e]
    · rw [← zto_stop h32 f k n j (by omega) (by omega)]
      show zto C f k n j ++ _ = _
      rw [if_pos (zb_ahead (h32 _) (by omega)), List.append_nil]
theorem zto_nil_to {C : Int → List UInt8} (f k n : Nat) : ∀ j, j ≤ k → (zto C f k n j = [] ↔ ∀ i, k - j ≤ i → i < k → zb n i (C ((f + i : Nat) : Int)) = C ((f + i : Nat) : Int))
  | 0, _ => by
    constructor
    · intro _ i h1 h2
      omega
    · intro _
      rfl
  | j + 1, hj => by
    have ih := zto_nil_to (C := C) f k n j (by omega)
    constructor
    · intro e i h1 h2
      unfold zto at e
      obtain ⟨e1, e2⟩ := List.append_eq_nil_iff.1 e
      by_cases hi : i = k - 1 - j
      · subst hi
        by_cases hz : zb n (k - 1 - j) (C ((f + (k - 1 - j) : Nat) : Int)) = C ((f + (k - 1 - j) : Nat) : Int)
        · exact hz
        · rw [if_neg hz] at e2
          cases e2
      · exact ih.1 e1 i (by omega) h2
    · intro h
      unfold zto
      rw [ih.2 (fun i h1 h2 => h i (by omega) h2), List.nil_append, if_pos (h (k - 1 - j) (by omega) (by omega))]
/-- Nothing is to be zeroed. -/
theorem zto_nil {C : Int → List UInt8} (h32 : All32 C) (f k n : Nat) : zto C f k n k = [] ↔ ∀ x ∈ (reg C f k).drop n, x = 0 := by
  rw [zto_nil_to f k n k (Nat.le_refl _)]
  have hl := length_reg h32 f k
  constructor
  · intro h x hx
    obtain ⟨p, hp⟩ := List.getElem?_of_mem hx
    rw [List.getElem?_drop] at hp
    have hlt := (List.getElem?_eq_some_iff.1 hp).1
    rw [hl] at hlt
    have e : n + p = 32 * ((n + p) / 32) + (n + p) % 32 := by omega
    rw [e, reg_get h32 f k ((n + p) / 32) ((n + p) % 32) (by omega) (by omega)] at hp
    refine (zb_same (h32 _)).1 (h ((n + p) / 32) (by omega) (by omega)) x ?_
    refine List.mem_of_getElem? (i := (n + p) % 32 - (n - 32 * ((n + p) / 32))) ?_
    rw [List.getElem?_drop, ← hp]
    congr 1
    omega
  · intro h i _ hi
    refine (zb_same (h32 _)).2 fun x hx => ?_
    obtain ⟨p, hp⟩ := List.getElem?_of_mem hx
    rw [List.getElem?_drop] at hp
    have hlt := (List.getElem?_eq_some_iff.1 hp).1
    rw [h32] at hlt
    refine h x (List.mem_of_getElem? (i := 32 * i + (n - 32 * i + p) - n) ?_)
    rw [List.getElem?_drop, show n + (32 * i + (n - 32 * i + p) - n) = 32 * i + (n - 32 * i + p) by omega, reg_get h32 f k i _ hi (by omega)]
    exact hp

section
variable {F : Int → Option (List UInt8)} {cs : List CallM} {f k n j : Nat}
theorem zto_ok2 (hF : Blocks32 F) (hc : ∀ c ∈ cs, c.ok) (hf : f + k ≤ 65536) (hj : j ≤ k) : ∀ c ∈ cs ++ zto (con F cs) f k n j, c.ok := fun c hcc => by
  rcases List.mem_append.1 hcc with h | h
  · exact hc c h
  · exact (zto_ok (con_all32 hF hc) hf j hj c h).1
/-- A block that isn't gone through yet. -/
theorem con_zto_yet (hF : Blocks32 F) (hc : ∀ c ∈ cs, c.ok) (hf : f + k ≤ 65536) (hj : j < k) {i : Nat} (hi : i = k - 1 - j) : con F (cs ++ zto (con F cs) f k n j) ((f + i : Nat) : Int) = con F cs ((f + i : Nat) : Int) := by
  rw [con_zto hF hc hf j (by omega), if_neg (by omega)]
theorem part_yet (hF : Blocks32 F) (hc : ∀ c ∈ cs, c.ok) (hf : f + k ≤ 65536) (hj : j < k) {i : Nat} (hi : i = k - 1 - j) (q : Nat) :
    ((reg (con F (cs ++ zto (con F cs) f k n j)) f k).drop (32 * i + q)).take (32 - q) = (con F cs ((f + i : Nat) : Int)).drop q := by
  have h32 := con_all32 hF (zto_ok2 (n := n) hF hc hf (Nat.le_of_lt hj))
  rw [← List.drop_drop, ← List.drop_take, reg_block h32 f k i (by omega), con_zto_yet hF hc hf hj hi]
theorem part_same (hF : Blocks32 F) (hc : ∀ c ∈ cs, c.ok) (hf : f + k ≤ 65536) (hj : j < k) {i : Nat} (hi : i = k - 1 - j) :
    (∀ b ∈ ((reg (con F (cs ++ zto (con F cs) f k n j)) f k).drop (32 * i + (n - 32 * i))).take (32 - (n - 32 * i)), b = 0) ↔ zb n i (con F cs ((f + i : Nat) : Int)) = con F cs ((f + i : Nat) : Int) := by
  rw [part_yet hF hc hf hj hi, zb_same (con_all32 hF hc _)]
/-- The region's bytes behind one block more. -/
theorem reg_zto_step (hF : Blocks32 F) (hc : ∀ c ∈ cs, c.ok) (hf : f + k ≤ 65536) (hj : j < k) {i : Nat} (hi : i = k - 1 - j) (hq : n - 32 * i ≤ 32) :
    putAt (reg (con F (cs ++ zto (con F cs) f k n j)) f k) (32 * i + (n - 32 * i)) (List.replicate (32 - (n - 32 * i)) 0) = reg (con F (cs ++ zto (con F cs) f k n (j + 1))) f k := by
  have h32 := con_all32 hF (zto_ok2 (n := n) hF hc hf (Nat.le_of_lt hj))
  have h32' := con_all32 hF (zto_ok2 (n := n) hF hc hf (Nat.succ_le_of_lt hj))
  have hl := length_reg h32 f k
  have hfit : 32 * i + (n - 32 * i) + (List.replicate (32 - (n - 32 * i)) (0 : UInt8)).length ≤ (reg (con F (cs ++ zto (con F cs) f k n j)) f k).length := by
    rw [List.length_replicate, hl]
    omega
  refine (reg_eq h32' f k _ (by rw [length_putAt hfit, hl]) fun a b ha hb => ?_).symm
  rw [putAt_get hfit, List.length_replicate, con_zto hF hc hf (j + 1) (by omega), reg_get h32 f k a b ha hb, con_zto hF hc hf j (by omega), show (((f + a : Nat) : Int)).toNat - f = a by omega]
  by_cases e : a = i
  · subst e
    rw [if_pos (by omega), zb_get (con_all32 hF hc _) hb]
    by_cases hn : 32 * a + b < n
    · rw [if_pos hn, if_neg (by omega), if_neg (by omega)]
    · rw [if_neg hn, if_pos ⟨by omega, by omega⟩, List.getElem?_replicate, if_pos (by omega)]
  · by_cases h1 : k - j ≤ a
    · rw [if_pos (by omega), if_neg (by omega), if_pos (by omega)]
    · rw [if_neg (by omega), if_neg (by omega), if_neg (by omega)]
theorem block_zto_step (hF : Blocks32 F) (hc : ∀ c ∈ cs, c.ok) (hf : f + k ≤ 65536) (hj : j < k) {i : Nat} (hi : i = k - 1 - j) :
    ((reg (con F (cs ++ zto (con F cs) f k n (j + 1))) f k).drop (32 * i)).take 32 = zb n i (con F cs ((f + i : Nat) : Int)) := by
  have h32' := con_all32 hF (zto_ok2 (n := n) hF hc hf (Nat.succ_le_of_lt hj))
  rw [reg_block h32' f k i (by omega), con_zto hF hc hf (j + 1) (by omega), if_pos (by omega), show (((f + i : Nat) : Int)).toNat - f = i by omega]
theorem zto_step_same {C : Int → List UInt8} {i : Nat} (hi : i = k - 1 - j) (h : zb n i (C ((f + i : Nat) : Int)) = C ((f + i : Nat) : Int)) : zto C f k n (j + 1) = zto C f k n j := by
  subst hi
  show zto C f k n j ++ _ = _
  rw [if_pos h, List.append_nil]
theorem zto_step_other {C : Int → List UInt8} {i : Nat} (hi : i = k - 1 - j) (h : ¬ zb n i (C ((f + i : Nat) : Int)) = C ((f + i : Nat) : Int)) : zto C f k n (j + 1) = zto C f k n j ++ [⟨false, ((f + i : Nat) : Int), zb n i (C ((f + i : Nat) : Int))⟩] := by
  subst hi
  show zto C f k n j ++ _ = _
  rw [if_neg h]
/-- A region read block by block. -/
theorem putAt_read {C : Int → List UInt8} (h32 : All32 C) {X : List UInt8} (_hX : X.length = 32 * k) (_hj : j < k) : putAt (reg C f j ++ X.drop (32 * j)) (32 * j) (C ((f + j : Nat) : Int)) = reg C f (j + 1) ++ X.drop (32 * (j + 1)) := by
  have hl := length_reg h32 f j
  unfold putAt
  rw [h32, List.take_append_of_le_length (by omega), List.take_of_length_le (by omega), List.drop_append, List.drop_of_length_le (by omega), List.nil_append, List.drop_drop, hl]
  congr 2
  omega
end

theorem IsScan.take {b : List UInt8} {ls : List (List UInt8)} {n : Nat} (h : IsScan b ls n) : IsScan (b.take n) ls n :=
  ⟨by rw [List.length_take]; have := h.1; omega, by rw [List.take_take, Nat.min_self]; exact h.2.1, h.2.2.1, by rw [List.drop_of_length_le (by rw [List.length_take]; omega), takeE_nil]; decide⟩
theorem IsScan.len {b : List UInt8} {ls : List (List UInt8)} {n : Nat} (h : IsScan b ls n) : n = (frames ls).length := by
  have := congrArg List.length h.2.1
  rw [List.length_take] at this
  have := h.1
  omega
theorem takeE_noughts (n : Nat) : takeE (List.replicate n 0) ≠ 0 := fun h => by
  have h1 := (hdrE_zero.1 (takeE_zero.1 h).1)
  have h2 := h1.2.1
  unfold at0 at h2
  have : (List.replicate n (0 : UInt8)).getD 0 0 = 0 := by
    cases n <;> rfl
  rw [this] at h2
  exact absurd h2 (by decide)
end Go.Proofs.Ytpfdlcogldbocaa

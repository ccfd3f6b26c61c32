/-
  The document's Bracket, as a walk over items. Condition: a text; the world holds what strings.Index asks.
-/
import Derived.Test.YtpeidgppcdkjdaaCrnm
namespace Go.Proofs.Ytpeidgppcdkjdaa
open Go.RowKit

theorem BoxF.congr {w : World} {b : Nat} {A B : Nat → Nat} (h : BoxF w b A) (e : setV A = setV B) : BoxF w b B := by
  unfold setV at e
  simp only [Value.agg.injEq, Array.mk.injEq, List.cons.injEq, Value.int.injEq, true_and, and_true] at e
  obtain ⟨e0, e1, e2, e3⟩ := e
  obtain ⟨⟨h0, h1, h2, h3⟩, hf⟩ := h
  exact ⟨⟨by rw [← e0]; exact h0, by rw [← e1]; exact h1, by rw [← e2]; exact h2, by rw [← e3]; exact h3⟩, hf⟩

/-- The items of a bracket, as the texts' own items. -/
inductive BrkP (s : ByteArray) : Nat → (Nat → Nat) → Option ((Nat → Nat) × Nat) → Prop
  | bad {n : Nat} {S : Nat → Nat} : n ≤ s.size → (itm (s.data.toList.drop n)).2 = 0 → BrkP s n S none
  | last {n : Nat} {S : Nat → Nat} {r : List UInt8} : 0 < (itm (s.data.toList.drop n)).2 → n + (itm (s.data.toList.drop n)).2 ≤ s.size → s.data.toList.drop (n + (itm (s.data.toList.drop n)).2) = 93 :: r → BrkP s n S (some (bothS S (itm (s.data.toList.drop n)).1, n + (itm (s.data.toList.drop n)).2))
  | more {n : Nat} {S : Nat → Nat} {x : Option ((Nat → Nat) × Nat)} : 0 < (itm (s.data.toList.drop n)).2 → n + (itm (s.data.toList.drop n)).2 ≤ s.size → (∀ r, s.data.toList.drop (n + (itm (s.data.toList.drop n)).2) ≠ 93 :: r) → BrkP s (n + (itm (s.data.toList.drop n)).2) (bothS S (itm (s.data.toList.drop n)).1) x → BrkP s n S x
theorem itm_ok (l : List UInt8) : OkS (itm l).1 := by
  unfold itm
  split
  · unfold nmd
    split
    · exact nameS_ok _
    · exact OkS.no
  · unfold itmP
    split
    · exact OkS.no
    · split
      · exact OkS.no.withS _ _
      · exact OkS.no
    · split
      · exact OkS.no.withS _ _
      · exact OkS.no
    · split
      · split
        · split
          · exact OkS.no.withS _ _
          · exact OkS.no
        · exact OkS.no.withS _ _
      · exact OkS.no
theorem cut_len (l : List UInt8) (h : (Lib.cut l [58, 93]).2.2 = true) : (Lib.cut l [58, 93]).1.length + 2 ≤ l.length := by
  unfold Lib.cut at h ⊢
  split
  · rename_i hi
    have := Lib.index_room l [58, 93] hi
    simp only [List.length_cons, List.length_nil] at this
    simp only [List.length_take]
    omega
  · rename_i hi
    rw [if_neg hi] at h
    cases h
theorem itm_le (l : List UInt8) : (itm l).2 ≤ l.length := by
  unfold itm
  split
  · rename_i hp
    unfold nmd
    split
    · rename_i h
      have := cut_len _ h.1
      obtain ⟨r, hr⟩ := List.isPrefixOf_iff_prefix.1 hp
      rw [← hr] at this ⊢
      simp only [List.cons_append, List.nil_append, List.drop_succ_cons, List.drop_zero, List.length_cons] at this ⊢
      omega
    · exact Nat.zero_le _
  · match l with
    | [] => exact Nat.zero_le _
    | [c] =>
      simp only [itmP]
      split
      · exact Nat.le_refl _
      · exact Nat.zero_le _
    | [c, d] =>
      simp only [itmP]
      split
      · exact Nat.le_succ _
      · exact Nat.zero_le _
    | c :: d :: e :: q =>
      simp only [itmP]
      split
      · split
        · split
          · simp
          · exact Nat.zero_le _
        · simp
      · exact Nat.zero_le _
theorem brkP_ex (s : ByteArray) : ∀ (d n : Nat) (S : Nat → Nat), n ≤ s.size → s.size - n ≤ d → ∃ r, BrkP s n S r := by
  intro d
  induction d with
  | zero =>
    intro n S hn hd
    have h := itm_le (s.data.toList.drop n)
    have hl : (s.data.toList.drop n).length = s.size - n := by rw [List.length_drop]; simp
    exact ⟨none, .bad hn (by omega)⟩
  | succ d ih =>
    intro n S hn hd
    have h := itm_le (s.data.toList.drop n)
    have hl : (s.data.toList.drop n).length = s.size - n := by rw [List.length_drop]; simp
    rcases Nat.eq_zero_or_pos (itm (s.data.toList.drop n)).2 with h0 | h0
    · exact ⟨none, .bad hn h0⟩
    · have hle : n + (itm (s.data.toList.drop n)).2 ≤ s.size := by omega
      by_cases hc : ∃ r, s.data.toList.drop (n + (itm (s.data.toList.drop n)).2) = 93 :: r
      · obtain ⟨r, hr⟩ := hc
        exact ⟨_, .last h0 hle hr⟩
      · obtain ⟨x, hx⟩ := ih (n + (itm (s.data.toList.drop n)).2) (bothS S (itm (s.data.toList.drop n)).1) hle (by omega)
        exact ⟨x, .more h0 hle (fun r hr => hc ⟨r, hr⟩) hx⟩
theorem itm_pair (s : ByteArray) (hz : s.size ≤ 2147483648) (n : Nat) : ItemC MaxAt (s.extract n s.size) ((itm (s.data.toList.drop n)).1, (itm (s.data.toList.drop n)).2) := by
  have h := item_any (s.extract n s.size) (by simp; omega)
  rwa [drop_of] at h
theorem BrkP.toBrk {s : ByteArray} (hz : s.size ≤ 2147483648) {n : Nat} {S : Nat → Nat} {r : Option ((Nat → Nat) × Nat)} (h : BrkP s n S r) : Brk MaxAt s n S r := by
  induction h with
  | @bad n S hn h0 =>
    have hI := itm_pair s hz n
    rw [h0] at hI
    exact .bad (itm_ok _) hn hI
  | @last n S r h0 hle hr => exact .last (itm_ok _) (itm_pair s hz n) h0 hle (by unfold pre; rw [drop_of, hr]; rfl)
  | @more n S x h0 hle hne _ ih =>
    refine .more (itm_ok _) (itm_pair s hz n) h0 hle ?_ ih
    unfold pre
    rw [drop_of]
    match hl : s.data.toList.drop (n + (itm (s.data.toList.drop n)).2) with
    | [] => rfl
    | c :: r =>
      have hc : c ≠ 93 := fun e => hne r (by rw [hl, e])
      simp [List.isPrefixOf, Ne.symm hc]

theorem BrkW.congr {w wr : World} {S T : Nat → Nat} (h : BrkW w wr S) (e : setV S = setV T) : BrkW w wr T := by
  obtain ⟨h0, h1, h2⟩ := h
  exact ⟨h0, BoxF.congr h1 e, h2⟩
theorem BrkP.none {s : ByteArray} {n : Nat} {S : Nat → Nat} {r : Option ((Nat → Nat) × Nat)} (h : BrkP s n S r) (h0 : (itm (s.data.toList.drop n)).2 = 0) : r = none := by
  cases h with
  | bad => rfl
  | last h1 => omega
  | more h1 => omega
theorem BrkP.next {s : ByteArray} {n k : Nat} {S A : Nat → Nat} {r : Option ((Nat → Nat) × Nat)} (h : BrkP s n S r) (hi : itm (s.data.toList.drop n) = (A, k)) (hk : 0 < k) :
    n + k ≤ s.size ∧ ((BrkP s (n + k) (bothS S A) r ∧ ∀ q, s.data.toList.drop (n + k) ≠ 93 :: q) ∨ (r = some (bothS S A, n + k) ∧ ∃ q, s.data.toList.drop (n + k) = 93 :: q)) := by
  cases h with
  | bad _ h1 => rw [hi] at h1; simp only at h1; omega
  | last h1 h2 h3 => rw [hi] at h2 h3 ⊢; exact ⟨h2, .inr ⟨rfl, _, h3⟩⟩
  | more h1 h2 h3 h4 => rw [hi] at h2 h3 h4; exact ⟨h2, .inl ⟨h4, h3⟩⟩
def RB (s : ByteArray) (r : Option ((Nat → Nat) × Nat)) (w : World) (iv fv : Value) (wr : World) : Prop :=
  ∃ (n : Nat) (S : Nat → Nat) (f : Bool), iv = .int .i64 (n : Int) ∧ fv = .bool f ∧ OkS S ∧ n ≤ s.size ∧ BrkW w wr S ∧
    ((BrkP s n S r ∧ (f = true ∨ ∀ q, s.data.toList.drop n ≠ 93 :: q)) ∨ (f = false ∧ r = some (S, n) ∧ ∃ q, s.data.toList.drop n = 93 :: q))
theorem RB.step {s : ByteArray} {r : Option ((Nat → Nat) × Nat)} {w wr : World} {n k : Nat} {S A T : Nat → Nat} (h : BrkP s n S r) (hi : itm (s.data.toList.drop n) = (A, k)) (hk : 0 < k) (hS : OkS S) (hA : OkS A) (hW : BrkW w wr T) (e : setV T = setV (bothS S A)) :
    RB s r w (.int .i64 ((n + k : Nat) : Int)) (.bool false) wr ∧ s.size - (n + k) < s.size - n := by
  obtain ⟨h1, h2⟩ := h.next hi hk
  refine ⟨⟨n + k, bothS S A, false, rfl, rfl, hS.both hA, h1, hW.congr e, ?_⟩, by omega⟩
  rcases h2 with ⟨h2, h3⟩ | ⟨h2, h3⟩
  · exact .inl ⟨h2, .inr h3⟩
  · exact .inr ⟨rfl, h2, h3⟩
theorem set_with (S : Nat → Nat) (hS : OkS S) (a b : Nat) : setV (withS S a b) = setV (bothS S (withS noS a b)) :=
  setV_eq (hS.withS _ _) (hS.both (OkS.no.withS _ _)) fun d _ => by rw [has_with, has_both, has_with, has_no, Bool.false_or]
theorem sgl_of {l : List UInt8} {f : Bool} (h : f = true ∨ ∀ q, l ≠ 93 :: q) : sgl l f = byteOf l := by
  match l with
  | [] => rfl
  | c :: q =>
    unfold sgl
    rcases h with rfl | h
    · simp
    · have hc : c ≠ 93 := fun e => h q (by rw [e])
      simp [hc]
theorem byteOf_pre {l : List UInt8} (h : byteOf l = true) : ¬ [91, 58].isPrefixOf l = true := by
  intro hp
  obtain ⟨q, hq⟩ := List.isPrefixOf_iff_prefix.1 hp
  rw [← hq] at h
  simp [byteOf] at h
theorem itm_zero {l : List UInt8} (h : byteOf l = false) (hp : [91, 58].isPrefixOf l = true → itm l = (noS, 0)) : (itm l).2 = 0 := by
  by_cases h1 : [91, 58].isPrefixOf l = true
  · rw [hp h1]
  · unfold itm
    rw [if_neg h1, (show itmP l = (noS, 0) from itm_none h)]
theorem itm_plain {l : List UInt8} (h : byteOf l = true) : itm l = itmP l := by
  unfold itm
  rw [if_neg (byteOf_pre h)]
theorem itmP_one {c : UInt8} {q : List UInt8} (h : byteOf (c :: q) = true) (hq : ∀ e q', q = 45 :: e :: q' → e = 93) : itmP (c :: q) = (withS noS c.toNat c.toNat, 1) := by
  match q with
  | [] => simp only [itmP, h, if_true]
  | [d] => simp only [itmP, h, if_true]
  | d :: e :: q' =>
    simp only [itmP, h, if_true]
    rw [if_neg fun hh => hh.2 (hq e q' (by rw [hh.1]))]
theorem itmP_two {c e : UInt8} {q : List UInt8} (h : byteOf (c :: 45 :: e :: q) = true) (he : e ≠ 93) : itmP (c :: 45 :: e :: q) = if byteOf (e :: q) = true ∧ c.toNat ≤ e.toNat then (withS noS c.toNat e.toNat, 3) else (noS, 0) := by
  simp only [itmP, h, if_true]
  rw [if_pos ⟨trivial, he⟩]

theorem wraps {n : Nat} (hn : n ≤ 2147483648) (k : Int) (hk : 0 ≤ k ∧ k ≤ 5) : wrap64 ((n : Int) + k) = (n : Int) + k := IntWalk.wrap64_in _ (by omega)
theorem BrkW.drew {w wr : World} {S : Nat → Nat} (h : BrkW w wr S) : BrkW w wr.drew S := h.below ((Below.refl _ wr).drew)
end Go.Proofs.Ytpeidgppcdkjdaa

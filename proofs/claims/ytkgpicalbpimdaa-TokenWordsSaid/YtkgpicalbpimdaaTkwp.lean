/-
  A word of letters between blanks: what Word and Rest answer. No condition.
-/
import Derived.Test.YtkgpicalbpimdaaTklin
import Derived.Test.YtkgpicalbpimdaaTkra
import Derived.Test.YtkgpicalbpimdaaTkrl
namespace Go.Proofs.Ytkgpicalbpimdaa
open Go.RowKit Go.Deep

def isLt (c : UInt8) : Bool := decide (97 ≤ c.toNat) && decide (c.toNat ≤ 122)
theorem lt_not {c : UInt8} (h : isLt c = true) : isBl c = false ∧ c ≠ 10 ∧ c ≠ 59 := by
  unfold isLt at h
  simp only [Bool.and_eq_true, decide_eq_true_eq] at h
  refine ⟨?_, ?_, ?_⟩
  · unfold isBl
    rw [Bool.or_eq_false_iff, beq_eq_false_iff_ne, beq_eq_false_iff_ne]
    constructor
    · intro e; subst e; exact absurd h.1 (by decide)
    · intro e; subst e; exact absurd h.1 (by decide)
  · intro e; subst e; exact absurd h.1 (by decide)
  · intro e; subst e; exact absurd h.1 (by decide)
def blC (i : Nat) : UInt8 := if i % 2 = 0 then 32 else 9
def blN : Nat → List UInt8
  | 0 => []
  | n + 1 => blN n ++ [blC n]
theorem blN_len : ∀ n, (blN n).length = n
  | 0 => rfl
  | n + 1 => by rw [blN, List.length_append, blN_len n]; rfl
theorem blC_bl (i : Nat) : isBl (blC i) = true := by unfold blC; split <;> rfl
theorem blN_bl : ∀ n, ∀ c ∈ blN n, isBl c = true
  | 0, c, h => by simp [blN] at h
  | n + 1, c, h => by
    rw [blN, List.mem_append] at h
    rcases h with h | h
    · exact blN_bl n c h
    · rw [List.mem_singleton] at h; rw [h]; exact blC_bl n
theorem bl_not {c : UInt8} (h : isBl c = true) : c ≠ 10 ∧ c ≠ 59 := by
  constructor
  · intro e; subst e; cases h
  · intro e; subst e; cases h
theorem blk_app {B l : List UInt8} (h : ∀ c ∈ B, isBl c = true) : blk (B ++ l) = B.length + blk l := by
  induction B with
  | nil => simp
  | cons c r ih =>
    rw [List.cons_append, blk_yes (h c (by simp)), ih (fun d hd => h d (by simp [hd])), List.length_cons]
    omega
theorem wrd_app {st : UInt8 → Bool} {B l : List UInt8} (h : ∀ c ∈ B, st c = false) : wrd st (B ++ l) = B ++ wrd st l := by
  induction B with
  | nil => rfl
  | cons c r ih => rw [List.cons_append, wrd_go (h c (by simp)), ih (fun d hd => h d (by simp [hd]))]; rfl
theorem trim_app {x B : List UInt8} (h : ∀ c ∈ B, isBl c = true) : trimR (x ++ B) = trimR x := by
  unfold trimR
  rw [List.reverse_append]
  have : ∀ (L : List UInt8), (∀ c ∈ L, isBl c = true) → (L ++ x.reverse).dropWhile isBl = x.reverse.dropWhile isBl := by
    intro L hL
    induction L with
    | nil => rfl
    | cons c r ih =>
      rw [List.cons_append, List.dropWhile_cons_of_pos (hL c (by simp))]
      exact ih (fun d hd => hL d (by simp [hd]))
  rw [this B.reverse (fun c hc => h c (List.mem_reverse.1 hc))]
theorem trim_last {x : List UInt8} (h : ∀ c, x.getLast? = some c → isBl c = false) : trimR x = x := by
  rcases List.eq_nil_or_concat x with rfl | ⟨y, c, rfl⟩
  · rfl
  · rw [List.concat_eq_append] at h ⊢
    rw [trim_snoc, if_neg (by rw [h c (by simp)]; simp)]
/-- A word of letters, blanks ahead and behind, then what ends it. -/
theorem word_here {B W R : List UInt8} (hB : ∀ c ∈ B, isBl c = true) (hW : ∀ c ∈ W, isLt c = true) (hR : R = [] ∨ ∃ c r, R = c :: r ∧ (c = 10 ∨ c = 59)) : upF endW (B ++ W ++ B ++ R) 0 = (W, (B.length : Int) + (W.length : Int) + (B.length : Int)) := by
  have hn : ∀ c, isLt c = true → endW c = false := fun c h => by
    obtain ⟨_, h1, h2⟩ := lt_not h
    unfold endW
    simp only [List.contains, List.elem]
    rw [beq_eq_false_iff_ne.2 h1, beq_eq_false_iff_ne.2 h2]
  have hb : ∀ c, isBl c = true → endW c = false := fun c h => by
    obtain ⟨h1, h2⟩ := bl_not h
    unfold endW
    simp only [List.contains, List.elem]
    rw [beq_eq_false_iff_ne.2 h1, beq_eq_false_iff_ne.2 h2]
  have hwR : wrd endW R = [] := by
    rcases hR with rfl | ⟨c, r, rfl, hc⟩
    · rfl
    · exact wrd_stop (by rcases hc with rfl | rfl <;> rfl)
  have hbR : blk R = 0 := by
    rcases hR with rfl | ⟨c, r, rfl, hc⟩
    · rfl
    · exact blk_no (by rcases hc with rfl | rfl <;> rfl)
  unfold upF
  rw [if_pos ⟨by omega, by omega⟩]
  simp only [Int.toNat_zero, List.drop_zero, Nat.zero_add, Int.zero_add]
  cases W with
  | nil =>
    rw [List.append_nil, List.append_assoc, blk_app hB, blk_app hB, hbR]
    rw [← List.append_assoc, List.drop_append_of_le_length (by rw [List.length_append]; omega), List.drop_eq_nil_of_le (by rw [List.length_append]; omega), List.nil_append, hwR]
    simp [trim_nil]
  | cons x V =>
    have e : blk (B ++ (x :: V) ++ B ++ R) = B.length := by
      rw [List.append_assoc, List.append_assoc, blk_app hB, List.cons_append, blk_no (lt_not (hW x (by simp))).1]
      omega
    rw [e, List.append_assoc, List.append_assoc, List.drop_left, wrd_app (fun c hc => hn c (hW c hc)), wrd_app (fun c hc => hb c (hB c hc)), hwR, List.append_nil, trim_app hB]
    rw [trim_last (fun c hc => (lt_not (hW c (List.mem_of_getLast? hc))).1)]
    first | (congr 1; done) | (congr 1; simp; done) | (congr 1; simp; omega)
/-- .. and what Rest answers, with a ; and the word once more behind. -/
theorem rest_here {B W : List UInt8} (hB : ∀ c ∈ B, isBl c = true) (hW : ∀ c ∈ W, isLt c = true) : upF endR (B ++ W ++ B ++ [59] ++ W) 0 = (if W = [] then [59] else W ++ B ++ [59] ++ W, (B.length : Int) + (W.length : Int) + (B.length : Int) + 1 + (W.length : Int)) := by
  have hn : ∀ c, isLt c = true → endR c = false := fun c h => by
    obtain ⟨_, h1, _⟩ := lt_not h
    unfold endR
    simp only [List.contains, List.elem]
    rw [beq_eq_false_iff_ne.2 h1]
  have hb : ∀ c, isBl c = true → endR c = false := fun c h => by
    obtain ⟨h1, _⟩ := bl_not h
    unfold endR
    simp only [List.contains, List.elem]
    rw [beq_eq_false_iff_ne.2 h1]
  unfold upF
  rw [if_pos ⟨by omega, by omega⟩]
  simp only [Int.toNat_zero, List.drop_zero, Nat.zero_add, Int.zero_add]
  cases W with
  | nil =>
    rw [List.append_nil, List.append_nil, List.append_assoc, blk_app hB, blk_app hB]
    rw [← List.append_assoc, List.drop_append_of_le_length (by rw [List.length_append]; show B.length + (B.length + 0) ≤ _; omega), List.drop_eq_nil_of_le (by rw [List.length_append]; show _ ≤ B.length + (B.length + 0); omega), List.nil_append]
    rw [if_pos rfl]
    show (trimR [59], ((B.length + (B.length + 0) : Nat) : Int) + ((1 : Nat) : Int)) = _
    rw [show trimR [59] = [59] from rfl]
    first | (congr 1; done) | (congr 1; simp; done) | (congr 1; simp; omega)
  | cons x V =>
    have e : blk (B ++ (x :: V) ++ B ++ [59] ++ (x :: V)) = B.length := by
      rw [List.append_assoc, List.append_assoc, List.append_assoc, blk_app hB, List.cons_append, blk_no (lt_not (hW x (by simp))).1]
      omega
    rw [e, List.append_assoc, List.append_assoc, List.append_assoc, List.drop_left, wrd_app (fun c hc => hn c (hW c hc)), wrd_app (fun c hc => hb c (hB c hc)), wrd_app (fun c hc => by rw [List.mem_singleton] at hc; subst hc; rfl)]
    have e2 : wrd endR (x :: V) = x :: V := by
      have := wrd_app (st := endR) (B := x :: V) (l := []) (fun c hc => hn c (hW c hc))
      rw [List.append_nil, wrd_nil, List.append_nil] at this
      exact this
    rw [e2, if_neg (by simp)]
    have e3 : trimR (x :: V ++ (B ++ ([59] ++ x :: V))) = x :: V ++ (B ++ ([59] ++ x :: V)) := trim_last (fun c hc => by
      rw [← List.append_assoc, ← List.append_assoc, List.getLast?_append] at hc
      have : c ∈ x :: V := by
        cases h : (x :: V).getLast? with
        | none => simp at h
        | some d =>
          rw [h] at hc
          simp at hc
          rw [← hc]
          exact List.mem_of_getLast? h
      exact (lt_not (hW c this)).1)
    rw [e3, ← List.append_assoc, ← List.append_assoc]
    first | (congr 1; done) | (congr 1; simp; done) | (congr 1; simp; omega)
end Go.Proofs.Ytkgpicalbpimdaa

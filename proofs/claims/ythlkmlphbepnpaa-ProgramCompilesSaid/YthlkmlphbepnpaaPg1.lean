/-
  Braces and labels of commands, as plain lists: what closes what, and where labels stand. No condition.
-/
import Derived.Test.YthlkmlphbepnpaaProg
namespace Go.Proofs.Ythlkmlphbepnpaa

/-- The braces that stand open ahead of command i, the last one first; none: one ahead closed nothing. -/
def stk (N : Nat → Int) : Nat → Option (List Nat)
  | 0 => some []
  | i + 1 => (stk N i).bind fun s => if N i = 123 then some (i :: s) else if N i = 125 then (match s with | [] => none | _ :: t => some t) else some s
/-- The brace at b is closed by the one at i. -/
def Closes (N : Nat → Int) (b i : Nat) : Prop := N i = 125 ∧ ∃ t, stk N i = some (b :: t)

theorem stk_open {N : Nat → Int} {i : Nat} {s : List Nat} (h : stk N i = some s) (hn : N i = 123) : stk N (i + 1) = some (i :: s) := by simp [stk, h, hn]
theorem stk_shut {N : Nat → Int} {i b : Nat} {t : List Nat} (h : stk N i = some (b :: t)) (hn : N i = 125) : stk N (i + 1) = some t := by simp [stk, h, hn]
theorem stk_other {N : Nat → Int} {i : Nat} {s : List Nat} (h : stk N i = some s) (h1 : N i ≠ 123) (h2 : N i ≠ 125) : stk N (i + 1) = some s := by simp [stk, h, h1, h2]
theorem stk_step {N : Nat → Int} {i : Nat} {s' : List Nat} (h : stk N (i + 1) = some s') : ∃ s, stk N i = some s ∧ ((N i = 123 ∧ s' = i :: s) ∨ (N i = 125 ∧ ∃ b, s = b :: s') ∨ (N i ≠ 123 ∧ N i ≠ 125 ∧ s' = s)) := by
  cases e : stk N i with
  | none => simp [stk, e] at h
  | some s =>
    refine ⟨s, rfl, ?_⟩
    by_cases h1 : N i = 123
    · rw [stk_open e h1] at h
      injection h with h
      exact .inl ⟨h1, h.symm⟩
    · by_cases h2 : N i = 125
      · cases s with
        | nil => simp [stk, e, h2] at h
        | cons b t =>
          rw [stk_shut e h2] at h
          injection h with h
          exact .inr (.inl ⟨h2, b, by rw [h]⟩)
      · rw [stk_other e h1 h2] at h
        injection h with h
        exact .inr (.inr ⟨h1, h2, h.symm⟩)
theorem stk_back {N : Nat → Int} {i : Nat} {s : List Nat} (h : stk N i = some s) : ∀ k, k ≤ i → ∃ t, stk N k = some t := by
  induction i generalizing s with
  | zero => intro k hk; obtain rfl : k = 0 := by omega
            exact ⟨s, h⟩
  | succ i ih =>
    intro k hk
    obtain ⟨t, ht, _⟩ := stk_step h
    rcases Nat.lt_or_ge k (i + 1) with h1 | h1
    · exact ih ht k (by omega)
    · obtain rfl : k = i + 1 := by omega
      exact ⟨s, h⟩
theorem stk_mem {N : Nat → Int} {i : Nat} : ∀ {s : List Nat}, stk N i = some s → s.Pairwise (· > ·) ∧ ∀ b ∈ s, b < i ∧ N b = 123 := by
  induction i with
  | zero => intro s h; simp only [stk, Option.some.injEq] at h; subst h; simp
  | succ i ih =>
    intro s h
    obtain ⟨t, ht, hc⟩ := stk_step h
    obtain ⟨i1, i2⟩ := ih ht
    rcases hc with ⟨h1, rfl⟩ | ⟨h1, b, rfl⟩ | ⟨_, _, rfl⟩
    · refine ⟨List.pairwise_cons.2 ⟨fun b hb => (i2 b hb).1, i1⟩, fun b hb => ?_⟩
      rcases List.mem_cons.1 hb with rfl | hb
      · exact ⟨by omega, h1⟩
      · exact ⟨by have := (i2 b hb).1; omega, (i2 b hb).2⟩
    · exact ⟨(List.pairwise_cons.1 i1).2, fun c hc => ⟨by have := (i2 c (List.mem_cons_of_mem _ hc)).1; omega, (i2 c (List.mem_cons_of_mem _ hc)).2⟩⟩
    · exact ⟨i1, fun c hc => ⟨by have := (i2 c hc).1; omega, (i2 c hc).2⟩⟩
theorem closes_lt {N : Nat → Int} {b i : Nat} (h : Closes N b i) : b < i ∧ N b = 123 := by
  obtain ⟨_, t, ht⟩ := h
  exact (stk_mem ht).2 b (List.mem_cons_self ..)
theorem closes_one {N : Nat → Int} {b c i : Nat} (h : Closes N b i) (k : Closes N c i) : b = c := by
  obtain ⟨_, t, ht⟩ := h
  obtain ⟨_, u, hu⟩ := k
  rw [ht] at hu
  injection hu with hu
  injection hu
/-- What is no longer open does not open again. -/
theorem stk_gone {N : Nat → Int} {b j : Nat} {s : List Nat} (h : stk N j = some s) (hb : b < j) (hn : b ∉ s) : ∀ k, j ≤ k → ∀ t, stk N k = some t → b ∉ t := by
  intro k hk
  induction k with
  | zero => obtain rfl : j = 0 := by omega
            omega
  | succ k ih =>
    intro t ht
    rcases Nat.lt_or_ge k j with h1 | h1
    · obtain rfl : j = k + 1 := by omega
      rw [h] at ht
      injection ht with ht
      rw [← ht]
      exact hn
    · obtain ⟨u, hu, hc⟩ := stk_step ht
      have hbu := ih h1 u hu
      rcases hc with ⟨_, rfl⟩ | ⟨_, c, rfl⟩ | ⟨_, _, rfl⟩
      · intro hm
        rcases List.mem_cons.1 hm with e | hm
        · omega
        · exact hbu hm
      · exact fun hm => hbu (List.mem_cons_of_mem _ hm)
      · exact hbu
theorem closes_gone {N : Nat → Int} {b i : Nat} (h : Closes N b i) : ∃ t, stk N (i + 1) = some t ∧ b ∉ t := by
  obtain ⟨h1, t, ht⟩ := h
  refine ⟨t, stk_shut ht h1, fun hm => ?_⟩
  have := (List.pairwise_cons.1 (stk_mem ht).1).1 b hm
  omega
theorem closes_fn {N : Nat → Int} {b i j : Nat} (h : Closes N b i) (k : Closes N b j) : i = j := by
  have go : ∀ {i j}, Closes N b i → Closes N b j → ¬ i < j := by
    intro i j h k hij
    obtain ⟨t, ht, hn⟩ := closes_gone h
    obtain ⟨_, u, hu⟩ := k
    exact stk_gone ht (by have := (closes_lt h).1; omega) hn j hij _ hu (List.mem_cons_self ..)
  have a := go h k
  have b := go k h
  omega
/-- Between a brace and the one that closes it, it stands open. -/
theorem closes_open {N : Nat → Int} {b i m : Nat} (h : Closes N b i) (h1 : b < m) (h2 : m ≤ i) : ∃ s, stk N m = some s ∧ b ∈ s := by
  obtain ⟨h3, t, ht⟩ := h
  obtain ⟨s, hs⟩ := stk_back ht m h2
  refine ⟨s, hs, ?_⟩
  by_cases hm : b ∈ s
  · exact hm
  · exact absurd (List.mem_cons_self ..) (stk_gone hs h1 hm i h2 _ ht)
theorem stk_new {N : Nat → Int} {b : Nat} {s : List Nat} (h : stk N (b + 1) = some s) (hn : N b = 123) : b ∈ s := by
  obtain ⟨t, _, hc⟩ := stk_step h
  rcases hc with ⟨_, rfl⟩ | ⟨h1, _⟩ | ⟨h1, _⟩
  · exact List.mem_cons_self ..
  · omega
  · exact absurd hn h1
/-- A brace that no longer stands open was closed. -/
theorem closes_ex {N : Nat → Int} {b n : Nat} (hb : b < n) (hn : N b = 123) : ∀ {s : List Nat}, stk N n = some s → b ∉ s → ∃ i, i < n ∧ Closes N b i := by
  induction n with
  | zero => omega
  | succ n ih =>
    intro s hs hm
    rcases Nat.lt_or_ge b n with h | h
    · obtain ⟨t, ht, hc⟩ := stk_step hs
      by_cases hbt : b ∈ t
      · rcases hc with ⟨_, rfl⟩ | ⟨h1, c, rfl⟩ | ⟨_, _, rfl⟩
        · exact absurd (List.mem_cons_of_mem _ hbt) hm
        · rcases List.mem_cons.1 hbt with rfl | hbt
          · exact ⟨n, by omega, h1, s, ht⟩
          · exact absurd hbt hm
        · exact absurd hbt hm
      · obtain ⟨i, hi, hcl⟩ := ih h ht hbt
        exact ⟨i, by omega, hcl⟩
    · obtain rfl : b = n := by omega
      exact absurd (stk_new hs hn) hm
/-- Braces within braces. -/
theorem closes_nest {N : Nat → Int} {i j k m : Nat} (h : Closes N i j) (hk : Closes N k m) (h1 : i < k) (h2 : k < j) : m < j := by
  apply Nat.lt_of_not_le
  intro hle
  obtain ⟨s, hs, hm⟩ := closes_open hk h2 hle
  obtain ⟨_, t, ht⟩ := h
  rw [ht] at hs
  injection hs with hs
  subst hs
  rcases List.mem_cons.1 hm with rfl | hm
  · omega
  · have := (List.pairwise_cons.1 (stk_mem ht).1).1 k hm
    omega

/-- What closing the braces of n commands answers: the first } that closes nothing, or else the last { that is not closed, or else none. -/
inductive CB (N : Nat → Int) (n : Nat) : Option Nat → Prop
  | bad (i : Nat) : i < n → N i = 125 → stk N i = some [] → CB N n (some i)
  | left (b : Nat) (t : List Nat) : stk N n = some (b :: t) → CB N n (some b)
  | ok : stk N n = some [] → CB N n none
/-- What stands where the braces' jumps are, behind the first m commands. -/
def JB (N : Nat → Int) (m : Nat) (J : Nat → Int) : Prop := ∀ b, (∀ i, i < m → Closes N b i → J b = (i : Int)) ∧ ((∀ i, i < m → ¬ Closes N b i) → J b = 0)
theorem JB.zero (N : Nat → Int) : JB N 0 fun _ => 0 := fun _b => ⟨fun i h => absurd h (Nat.not_lt_zero i), fun _ => rfl⟩
theorem JB.skip {N : Nat → Int} {m : Nat} {J : Nat → Int} (h : JB N m J) (hn : N m ≠ 125) : JB N (m + 1) J := fun b => ⟨fun i hi hc => by
  rcases Nat.lt_or_ge i m with h1 | h1
  · exact (h b).1 i h1 hc
  · obtain rfl : i = m := by omega
    exact absurd hc.1 hn, fun hc => (h b).2 fun i hi => hc i (by omega)⟩
theorem JB.shut {N : Nat → Int} {m c : Nat} {J : Nat → Int} (h : JB N m J) (hc : Closes N c m) : JB N (m + 1) (fun b => if b = c then (m : Int) else J b) := fun b => ⟨fun i hi hb => by
  show (if b = c then (m : Int) else J b) = (i : Int)
  by_cases hbc : b = c
  · subst hbc
    rw [if_pos rfl, closes_fn hc hb]
  · rw [if_neg hbc]
    rcases Nat.lt_or_ge i m with h1 | h1
    · exact (h b).1 i h1 hb
    · obtain rfl : i = m := by omega
      exact absurd (closes_one hb hc) hbc, fun hn => by
  show (if b = c then (m : Int) else J b) = 0
  by_cases hbc : b = c
  · subst hbc
    exact absurd hc (hn m (by omega))
  · rw [if_neg hbc]
    exact (h b).2 fun i hi => hn i (by omega)⟩

/-! ### labels -/
/-- No two labels among the first m commands have one text. -/
def Dis (N : Nat → Int) (T : Nat → ByteArray) (m : Nat) : Prop := ∀ i, i < m → N i = 58 → ∀ k, k < i → N k = 58 → T k ≠ T i
inductive LB (N : Nat → Int) (T : Nat → ByteArray) (n : Nat) : Option Nat → Prop
  | twice (i k : Nat) : i < n → N i = 58 → k < i → N k = 58 → T k = T i → Dis N T i → LB N T n (some i)
  | gone (i : Nat) : Dis N T n → i < n → (N i = 98 ∨ N i = 116) → T i ≠ ⟨#[]⟩ → (∀ k, k < n → N k = 58 → T k ≠ T i) →
      (∀ j, j < i → (N j = 98 ∨ N j = 116) → T j ≠ ⟨#[]⟩ → ∃ k, k < n ∧ N k = 58 ∧ T k = T j) → LB N T n (some i)
  | ok : Dis N T n → (∀ j, j < n → (N j = 98 ∨ N j = 116) → T j ≠ ⟨#[]⟩ → ∃ k, k < n ∧ N k = 58 ∧ T k = T j) → LB N T n none
/-- The jumps, those of b and t among the first m commands told. -/
def JL (N : Nat → Int) (T : Nat → ByteArray) (n m : Nat) (J0 J : Nat → Int) : Prop := ∀ i,
  (i < m → (N i = 98 ∨ N i = 116) → (T i = ⟨#[]⟩ → J i = (n : Int)) ∧ (T i ≠ ⟨#[]⟩ → ∃ k, k < n ∧ N k = 58 ∧ T k = T i ∧ J i = (k : Int))) ∧
  ((m ≤ i ∨ ¬ (N i = 98 ∨ N i = 116)) → J i = J0 i)
theorem JL.zero (N : Nat → Int) (T : Nat → ByteArray) (n : Nat) (J : Nat → Int) : JL N T n 0 J J := fun i => ⟨fun h => absurd h (Nat.not_lt_zero i), fun _ => rfl⟩
theorem JL.skip {N : Nat → Int} {T : Nat → ByteArray} {n m : Nat} {J0 J : Nat → Int} (h : JL N T n m J0 J) (hn : ¬ (N m = 98 ∨ N m = 116)) : JL N T n (m + 1) J0 J := fun i => ⟨fun hi hb => by
  rcases Nat.lt_or_ge i m with h1 | h1
  · exact (h i).1 h1 hb
  · obtain rfl : i = m := by omega
    exact absurd hb hn, fun hc => (h i).2 (by
  rcases hc with hc | hc
  · exact .inl (by omega)
  · exact .inr hc)⟩
theorem JL.put {N : Nat → Int} {T : Nat → ByteArray} {n m : Nat} {J0 J : Nat → Int} (h : JL N T n m J0 J) (hn : N m = 98 ∨ N m = 116) (v : Int)
    (hv : (T m = ⟨#[]⟩ → v = (n : Int)) ∧ (T m ≠ ⟨#[]⟩ → ∃ k, k < n ∧ N k = 58 ∧ T k = T m ∧ v = (k : Int))) : JL N T n (m + 1) J0 (fun i => if i = m then v else J i) := fun i => ⟨fun hi hb => by
  by_cases he : i = m
  · subst he
    simp only [if_pos]
    exact hv
  · simp only [if_neg he]
    exact (h i).1 (by omega) hb, fun hc => by
  show (if i = m then v else J i) = J0 i
  rcases hc with hc | hc
  · rw [if_neg (by omega)]
    exact (h i).2 (.inl (by omega))
  · rw [if_neg (show ¬ i = m from fun e => hc (by rw [e]; exact hn))]
    exact (h i).2 (.inr hc)⟩
/-- What a program's jumps are. -/
structure Jumps (N : Nat → Int) (T : Nat → ByteArray) (n : Nat) (J : Nat → Int) : Prop where
  shut : stk N n = some []
  dis : Dis N T n
  brace : ∀ b i, i < n → Closes N b i → J b = (i : Int)
  top : ∀ i, i < n → (N i = 98 ∨ N i = 116) → T i = ⟨#[]⟩ → J i = (n : Int)
  label : ∀ i, i < n → (N i = 98 ∨ N i = 116) → T i ≠ ⟨#[]⟩ → ∃ k, k < n ∧ N k = 58 ∧ T k = T i ∧ J i = (k : Int)
  other : ∀ i, N i ≠ 123 → N i ≠ 98 → N i ≠ 116 → J i = 0
theorem Jumps.make {N : Nat → Int} {T : Nat → ByteArray} {n : Nat} {J0 J : Nat → Int} (hs : stk N n = some []) (hd : Dis N T n) (hb : JB N n J0) (hl : JL N T n n J0 J) : Jumps N T n J := by
  refine ⟨hs, hd, fun b i hi hc => ?_, fun i hi h1 h2 => ((hl i).1 hi h1).1 h2, fun i hi h1 h2 => ((hl i).1 hi h1).2 h2, fun i h1 h2 h3 => ?_⟩
  · rw [(hl b).2 (.inr (by have := (closes_lt hc).2; omega))]
    exact (hb b).1 i hi hc
  · rw [(hl i).2 (.inr (by omega))]
    exact (hb i).2 fun j _ hc => h1 (closes_lt hc).2
theorem Jumps.opened {N : Nat → Int} {T : Nat → ByteArray} {n : Nat} {J : Nat → Int} (h : Jumps N T n J) {b : Nat} (hb : b < n) (hn : N b = 123) : ∃ i, i < n ∧ b < i ∧ Closes N b i ∧ J b = (i : Int) := by
  obtain ⟨i, hi, hc⟩ := closes_ex hb hn h.shut (List.not_mem_nil)
  exact ⟨i, hi, (closes_lt hc).1, hc, h.brace b i hi hc⟩
end Go.Proofs.Ythlkmlphbepnpaa

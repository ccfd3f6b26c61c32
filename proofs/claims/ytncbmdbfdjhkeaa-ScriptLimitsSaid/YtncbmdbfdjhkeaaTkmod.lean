/-
  What is read in a script's text, as functions of lists of bytes: blanks, figures, what stands up to a delimiter, words, lines; and what a text with backslashes is read as. No condition.
-/
import Derived.Lib.Hide
namespace Go.Proofs.Ytncbmdbfdjhkeaa

def isBl (c : UInt8) : Bool := c == 32 || c == 9
def isDg (c : UInt8) : Bool := decide (48 ≤ c.toNat) && decide (c.toNat ≤ 57)
def bs (l : List UInt8) : ByteArray := ⟨l.toArray⟩
theorem bs_list (l : List UInt8) : (bs l).data.toList = l := by simp [bs]
theorem bs_of (s : ByteArray) : bs s.data.toList = s := by cases s; simp [bs]
theorem bs_eq {s : ByteArray} {l : List UInt8} (h : s.data.toList = l) : s = bs l := by rw [← h, bs_of]

theorem drop_at {l : List UInt8} {k : Nat} {c : UInt8} (h : l[k]? = some c) : l.drop k = c :: l.drop (k + 1) := by
  obtain ⟨hk, e⟩ := List.getElem?_eq_some_iff.1 h
  rw [List.drop_eq_getElem_cons hk, e]
theorem drop_end {l : List UInt8} {k : Nat} (h : l.length ≤ k) : l.drop k = [] := List.drop_eq_nil_of_le h

/-! ### blanks -/
def blk (l : List UInt8) : Nat := (l.takeWhile isBl).length
theorem blk_nil : blk [] = 0 := rfl
theorem blk_yes {c : UInt8} {r : List UInt8} (h : isBl c = true) : blk (c :: r) = blk r + 1 := by simp [blk, List.takeWhile, h]
theorem blk_no {c : UInt8} {r : List UInt8} (h : isBl c = false) : blk (c :: r) = 0 := by simp [blk, List.takeWhile, h]
theorem blk_le (l : List UInt8) : blk l ≤ l.length := by
  unfold blk
  exact (List.takeWhile_sublist _).length_le
theorem blk_ends (l : List UInt8) (c : UInt8) (h : l[blk l]? = some c) : isBl c = false := by
  induction l with
  | nil => simp at h
  | cons a r ih =>
    cases ha : isBl a with
    | true => rw [blk_yes ha, List.getElem?_cons_succ] at h; exact ih h
    | false => rw [blk_no ha] at h; simp at h; rw [← h]; exact ha
/-- Blanks. -/
def blanksF (l : List UInt8) (i : Int) : Int := if 0 ≤ i then i + (blk (l.drop i.toNat) : Int) else i

/-! ### numbers -/
def dg (l : List UInt8) : Nat := (l.takeWhile isDg).length
theorem dg_nil : dg [] = 0 := rfl
theorem dg_yes {c : UInt8} {r : List UInt8} (h : isDg c = true) : dg (c :: r) = dg r + 1 := by simp [dg, List.takeWhile, h]
theorem dg_no {c : UInt8} {r : List UInt8} (h : isDg c = false) : dg (c :: r) = 0 := by simp [dg, List.takeWhile, h]
theorem dg_le (l : List UInt8) : dg l ≤ l.length := by
  unfold dg
  exact (List.takeWhile_sublist _).length_le
theorem dg_all (l : List UInt8) (i : Nat) (h : i < dg l) : ∃ c, l[i]? = some c ∧ isDg c = true := by
  induction l generalizing i with
  | nil => simp [dg] at h
  | cons a r ih =>
    cases ha : isDg a with
    | false => rw [dg_no ha] at h; omega
    | true =>
      rw [dg_yes ha] at h
      cases i with
      | zero => exact ⟨a, rfl, ha⟩
      | succ i => rw [List.getElem?_cons_succ]; exact ih i (by omega)
theorem dg_ends (l : List UInt8) (c : UInt8) (h : l[dg l]? = some c) : isDg c = false := by
  induction l with
  | nil => simp at h
  | cons a r ih =>
    cases ha : isDg a with
    | true => rw [dg_yes ha, List.getElem?_cons_succ] at h; exact ih h
    | false => rw [dg_no ha] at h; simp at h; rw [← h]; exact ha
/-- If j figures stand there, then dg is j and those behind. -/
theorem dg_split (l : List UInt8) (j : Nat) (h : ∀ i, i < j → ∃ c, l[i]? = some c ∧ isDg c = true) : dg l = j + dg (l.drop j) := by
  induction j generalizing l with
  | zero => simp
  | succ j ih =>
    obtain ⟨c, hc, hd⟩ := h 0 (by omega)
    cases l with
    | nil => simp at hc
    | cons a r =>
      simp at hc
      subst hc
      rw [dg_yes hd, List.drop_succ_cons, ih r (fun i hi => by
        have := h (i + 1) (by omega)
        rwa [List.getElem?_cons_succ] at this)]
      omega
def val (l : List UInt8) : Nat := l.foldl (fun n c => 10 * n + (c.toNat - 48)) 0
theorem val_snoc (l : List UInt8) (c : UInt8) : val (l ++ [c]) = 10 * val l + (c.toNat - 48) := by simp [val]
theorem val_take {l : List UInt8} {j : Nat} {c : UInt8} (h : l[j]? = some c) : val (l.take (j + 1)) = 10 * val (l.take j) + (c.toNat - 48) := by
  rw [List.take_add_one, h]
  exact val_snoc _ _
theorem val_lt (l : List UInt8) (h : ∀ c, c ∈ l → isDg c = true) : val l < 10 ^ l.length := by
  obtain ⟨r, hr⟩ : ∃ r, r = l.reverse := ⟨_, rfl⟩
  have hl : l = r.reverse := by rw [hr, List.reverse_reverse]
  subst hl
  clear hr
  induction r with
  | nil => simp [val]
  | cons c r ih =>
    rw [List.reverse_cons, val_snoc]
    have h1 := ih (fun d hd => h d (List.mem_reverse.2 (List.mem_cons_of_mem c (List.mem_reverse.1 hd))))
    have h2 := h c (by simp)
    unfold isDg at h2
    simp only [Bool.and_eq_true, decide_eq_true_eq] at h2
    simp only [List.length_append, List.length_reverse, List.length_cons, List.length_nil] at h1 ⊢
    rw [Nat.pow_succ]
    omega
/-- Number. -/
def numF (l : List UInt8) (i : Int) : Nat × Int × Bool :=
  if 0 ≤ i then
    if 1 ≤ dg (l.drop i.toNat) ∧ dg (l.drop i.toNat) ≤ 9 then (val ((l.drop i.toNat).take (dg (l.drop i.toNat))), i + (dg (l.drop i.toNat) : Int), true) else (0, i, false)
  else (0, i, false)

/-! ### what stands up to a delimiter -/
def cutF (d : UInt8) (ln : Bool) : List UInt8 → Option (List UInt8 × Nat)
  | [] => none
  | [c] => if c = 10 then none else if c = d then some ([], 1) else none
  | c :: x :: r =>
    if c = 10 then none
    else if c = d then some ([], 1)
    else if c = 92 then (if x = 10 ∧ ln = false then none else (cutF d ln r).map fun p => ((if x = d then [x] else [92, x]) ++ p.1, p.2 + 2))
    else (cutF d ln (x :: r)).map fun p => (c :: p.1, p.2 + 1)
theorem cut_feed (d : UInt8) (ln : Bool) (r : List UInt8) : cutF d ln (10 :: r) = none := by cases r <;> simp [cutF]
theorem cut_delim {d : UInt8} (hd : d ≠ 10) (ln : Bool) (r : List UInt8) : cutF d ln (d :: r) = some ([], 1) := by cases r <;> simp [cutF, hd]
theorem cut_other {d c : UInt8} (h1 : c ≠ 10) (h2 : c ≠ d) (h3 : c ≠ 92) (ln : Bool) (r : List UInt8) : cutF d ln (c :: r) = (cutF d ln r).map fun p => (c :: p.1, p.2 + 1) := by
  cases r with
  | nil => simp [cutF, h1, h2]
  | cons x r => simp [cutF, h1, h2, h3]
theorem cut_back {d : UInt8} (h2 : d ≠ 92) (ln : Bool) (x : UInt8) (r : List UInt8) (h : ¬ (x = 10 ∧ ln = false)) : cutF d ln (92 :: x :: r) = (cutF d ln r).map fun p => ((if x = d then [x] else [92, x]) ++ p.1, p.2 + 2) := by
  rw [cutF]
  rw [if_neg (by decide), if_neg (fun e => h2 e.symm), if_pos rfl, if_neg h]
theorem cut_back_feed {d : UInt8} (h2 : d ≠ 92) (r : List UInt8) : cutF d false (92 :: 10 :: r) = none := by
  rw [cutF]
  rw [if_neg (by decide), if_neg (fun e => h2 e.symm), if_pos rfl, if_pos ⟨rfl, rfl⟩]
theorem cut_back_end {d : UInt8} (h2 : d ≠ 92) (ln : Bool) : cutF d ln [92] = none := by
  rw [cutF]
  rw [if_neg (by decide), if_neg (fun e => h2 e.symm)]
/-- Where reading stands at m, with b read. -/
def cutAt (d : UInt8) (ln : Bool) (l : List UInt8) (m : Nat) (b : List UInt8) : Option (List UInt8 × Nat) := (cutF d ln (l.drop m)).map fun p => (b ++ p.1, m + p.2)
theorem cutAt_end {d : UInt8} {ln : Bool} {l : List UInt8} {m : Nat} {b : List UInt8} (h : l.length ≤ m) : cutAt d ln l m b = none := by simp [cutAt, drop_end h, cutF]
theorem cutAt_feed {d : UInt8} {ln : Bool} {l : List UInt8} {m : Nat} {b : List UInt8} (h : l[m]? = some 10) : cutAt d ln l m b = none := by simp [cutAt, drop_at h, cut_feed]
theorem cutAt_delim {d : UInt8} {ln : Bool} {l : List UInt8} {m : Nat} {b : List UInt8} (hd : d ≠ 10) (h : l[m]? = some d) : cutAt d ln l m b = some (b, m + 1) := by simp [cutAt, drop_at h, cut_delim hd]
theorem cutAt_other {d c : UInt8} {ln : Bool} {l : List UInt8} {m : Nat} {b : List UInt8} (h : l[m]? = some c) (h1 : c ≠ 10) (h2 : c ≠ d) (h3 : c ≠ 92) : cutAt d ln l m b = cutAt d ln l (m + 1) (b ++ [c]) := by
  simp only [cutAt, drop_at h, cut_other h1 h2 h3, Option.map_map]
  congr 1
  funext p
  simp [Nat.add_comm, Nat.add_left_comm]
theorem cutAt_back {d x : UInt8} {ln : Bool} {l : List UInt8} {m : Nat} {b : List UInt8} (hd : d ≠ 92) (h : l[m]? = some 92) (hx : l[m + 1]? = some x) (hn : ¬ (x = 10 ∧ ln = false)) : cutAt d ln l m b = cutAt d ln l (m + 2) (b ++ (if x = d then [x] else [92, x])) := by
  simp only [cutAt, drop_at h, drop_at hx, cut_back hd ln x _ hn, Option.map_map]
  congr 1
  funext p
  simp [Nat.add_comm, Nat.add_left_comm]
theorem cutAt_back_feed {d : UInt8} {l : List UInt8} {m : Nat} {b : List UInt8} (hd : d ≠ 92) (h : l[m]? = some 92) (hx : l[m + 1]? = some 10) : cutAt d false l m b = none := by
  simp [cutAt, drop_at h, drop_at hx, cut_back_feed hd]
theorem cutAt_back_end {d : UInt8} {ln : Bool} {l : List UInt8} {m : Nat} {b : List UInt8} (hd : d ≠ 92) (h : l[m]? = some 92) (hx : l.length ≤ m + 1) : cutAt d ln l m b = none := by
  simp [cutAt, drop_at h, drop_end hx, cut_back_end hd]
/-- Cut. -/
def cutG (d : UInt8) (ln : Bool) (l : List UInt8) (i : Int) : Option (List UInt8 × Nat) :=
  if 0 ≤ i ∧ i ≤ (l.length : Int) ∧ d ≠ 10 ∧ d ≠ 92 then cutAt d ln l i.toNat [] else none

/-! ### words -/
def trimR (l : List UInt8) : List UInt8 := (l.reverse.dropWhile isBl).reverse
theorem trim_snoc (l : List UInt8) (c : UInt8) : trimR (l ++ [c]) = if isBl c then trimR l else l ++ [c] := by
  unfold trimR
  rw [List.reverse_append]
  simp only [List.reverse_cons, List.reverse_nil, List.nil_append, List.singleton_append, List.dropWhile_cons]
  split <;> simp
theorem trim_le (l : List UInt8) : (trimR l).length ≤ l.length := by
  unfold trimR
  have := (List.dropWhile_sublist isBl (l := l.reverse)).length_le
  simpa using this
theorem trim_take (l : List UInt8) : trimR l = l.take (trimR l).length := by
  have h : trimR l <+: l := by
    unfold trimR
    have := List.dropWhile_suffix isBl (l := l.reverse)
    rw [← List.reverse_prefix] at this
    simpa using this
  exact List.prefix_iff_eq_take.1 h
theorem trim_nil : trimR [] = [] := rfl
theorem trim_ends (l : List UInt8) (c : UInt8) (h : (trimR l).getLast? = some c) : isBl c = false := by
  unfold trimR at h
  rw [List.getLast?_reverse] at h
  cases e : l.reverse.dropWhile isBl with
  | nil => rw [e] at h; simp at h
  | cons a r =>
    rw [e] at h
    simp at h
    subst h
    have := List.head?_dropWhile_not isBl l.reverse
    rw [e] at this
    simpa using this
/-- The bytes ahead of the first that is one of some. -/
def wrd (st : UInt8 → Bool) (l : List UInt8) : List UInt8 := l.takeWhile fun c => !st c
def upF (st : UInt8 → Bool) (l : List UInt8) (i : Int) : List UInt8 × Int :=
  if 0 ≤ i ∧ i ≤ (l.length : Int) then
    (trimR (wrd st (l.drop (i.toNat + blk (l.drop i.toNat)))), i + (blk (l.drop i.toNat) : Int) + ((wrd st (l.drop (i.toNat + blk (l.drop i.toNat)))).length : Int))
  else ([], i)
theorem wrd_nil (st : UInt8 → Bool) : wrd st [] = [] := rfl
theorem wrd_stop {st : UInt8 → Bool} {c : UInt8} {r : List UInt8} (h : st c = true) : wrd st (c :: r) = [] := by simp [wrd, List.takeWhile, h]
theorem wrd_go {st : UInt8 → Bool} {c : UInt8} {r : List UInt8} (h : st c = false) : wrd st (c :: r) = c :: wrd st r := by simp [wrd, List.takeWhile, h]
theorem wrd_le (st : UInt8 → Bool) (l : List UInt8) : (wrd st l).length ≤ l.length := (List.takeWhile_sublist _).length_le
theorem wrd_take (st : UInt8 → Bool) (l : List UInt8) : wrd st l = l.take (wrd st l).length := List.prefix_iff_eq_take.1 (List.takeWhile_prefix _)
/-- Where all of the first j bytes are not among some. -/
theorem wrd_split {st : UInt8 → Bool} {l : List UInt8} {j : Nat} (h : ∀ i, i < j → ∃ c, l[i]? = some c ∧ st c = false) : wrd st l = l.take j ++ wrd st (l.drop j) := by
  induction j generalizing l with
  | zero => simp
  | succ j ih =>
    obtain ⟨c, hc, hd⟩ := h 0 (by omega)
    cases l with
    | nil => simp at hc
    | cons a r =>
      simp at hc
      subst hc
      rw [wrd_go hd, List.drop_succ_cons, List.take_succ_cons, ih (fun i hi => by
        have := h (i + 1) (by omega)
        rwa [List.getElem?_cons_succ] at this)]
      rfl

/-! ### lines -/
def linF : List UInt8 → Option (List UInt8 × Nat)
  | [] => some ([10], 0)
  | [c] => if c = 10 then some ([10], 0) else if c = 92 then none else some ([c, 10], 1)
  | c :: x :: r =>
    if c = 10 then some ([10], 0)
    else if c = 92 then (linF r).map fun p => (x :: p.1, p.2 + 2)
    else (linF (x :: r)).map fun p => (c :: p.1, p.2 + 1)
theorem lin_feed (r : List UInt8) : linF (10 :: r) = some ([10], 0) := by cases r <;> simp [linF]
theorem lin_other {c : UInt8} (h1 : c ≠ 10) (h2 : c ≠ 92) (r : List UInt8) : linF (c :: r) = (linF r).map fun p => (c :: p.1, p.2 + 1) := by
  cases r with
  | nil => simp [linF, h1, h2]
  | cons x r => simp [linF, h1, h2]
theorem lin_back (x : UInt8) (r : List UInt8) : linF (92 :: x :: r) = (linF r).map fun p => (x :: p.1, p.2 + 2) := by simp [linF]
theorem lin_back_end : linF [92] = none := by simp [linF]
def linAt (l : List UInt8) (m : Nat) (b : List UInt8) : Option (List UInt8 × Nat) := (linF (l.drop m)).map fun p => (b ++ p.1, m + p.2)
theorem linAt_end {l : List UInt8} {m : Nat} {b : List UInt8} (h : l.length ≤ m) : linAt l m b = some (b ++ [10], m) := by simp [linAt, drop_end h, linF]
theorem linAt_feed {l : List UInt8} {m : Nat} {b : List UInt8} (h : l[m]? = some 10) : linAt l m b = some (b ++ [10], m) := by simp [linAt, drop_at h, lin_feed]
theorem linAt_other {c : UInt8} {l : List UInt8} {m : Nat} {b : List UInt8} (h : l[m]? = some c) (h1 : c ≠ 10) (h3 : c ≠ 92) : linAt l m b = linAt l (m + 1) (b ++ [c]) := by
  simp only [linAt, drop_at h, lin_other h1 h3, Option.map_map]
  congr 1
  funext p
  simp [Nat.add_comm, Nat.add_left_comm]
theorem linAt_back {x : UInt8} {l : List UInt8} {m : Nat} {b : List UInt8} (h : l[m]? = some 92) (hx : l[m + 1]? = some x) : linAt l m b = linAt l (m + 2) (b ++ [x]) := by
  simp only [linAt, drop_at h, drop_at hx, lin_back, Option.map_map]
  congr 1
  funext p
  simp [Nat.add_comm, Nat.add_left_comm]
theorem linAt_back_end {l : List UInt8} {m : Nat} {b : List UInt8} (h : l[m]? = some 92) (hx : l.length ≤ m + 1) : linAt l m b = none := by
  simp [linAt, drop_at h, drop_end hx, lin_back_end]
/-- Lines. -/
def linG (l : List UInt8) (i : Int) : Option (List UInt8 × Nat) :=
  if 0 ≤ i ∧ i ≤ (l.length : Int) then
    if l[i.toNat + blk (l.drop i.toNat)]? = some 92 ∧ l[i.toNat + blk (l.drop i.toNat) + 1]? = some 10 then linAt l (i.toNat + blk (l.drop i.toNat) + 2) [] else none
  else none
end Go.Proofs.Ytncbmdbfdjhkeaa

import Derived.Test.YtncbmdbfdjhkeaaK02
import Derived.Test.YtncbmdbfdjhkeaaK05
import Derived.Lib.IndexMore
/-
  Patterns as data: trees, tokens, what a pattern's text is cut into, and what tree is made of it. No condition.
-/
namespace Go.Proofs.Ytncbmdbfdjhkeaa
open Go.RowKit
inductive PN where
  | mk (kind : Int) (set : Nat → Nat) (lo hi num : Int) (kids : List PN)
def PN.kids : PN → List PN
  | .mk _ _ _ _ _ ks => ks
def PN.kind : PN → Int
  | .mk k _ _ _ _ _ => k
def PN.zero : PN := .mk 0 noS 0 0 0 []
structure Tok where
  kind : Int
  set : Nat → Nat
  lo : Int
  hi : Int
def Tok.none : Tok := ⟨0, noS, 0, 0⟩
def Tok.of (k : Int) : Tok := ⟨k, noS, 0, 0⟩
def oneT (c : Nat) : Tok := ⟨1, withS noS c c, 0, 0⟩
def anyT : Tok := ⟨1, notS noS, 0, 0⟩
def repT (a b : Int) : Tok := ⟨7, noS, a, b⟩
def Tok.v (t : Tok) : Value := .agg #[.int .i64 t.kind, .int .u64 (t.set 0), .int .u64 (t.set 1), .int .u64 (t.set 2), .int .u64 (t.set 3), .int .i64 t.lo, .int .i64 t.hi]
def escB : List UInt8 := [46, 91, 93, 92, 42, 94, 36, 47]
def escE : List UInt8 := [46, 91, 93, 92, 42, 94, 36, 47, 40, 41, 124, 43, 63, 123, 125]
def escT (them : List UInt8) : List UInt8 → Tok × Nat
  | [] => (Tok.none, 0)
  | d :: _ => if d = 110 then (oneT 10, 2) else if Lib.indexByte them d < 0 then (Tok.none, 0) else (oneT d.toNat, 2)
abbrev BkF := List UInt8 → Option ((Nat → Nat) × Nat)
def brkT (bk : BkF) (r : List UInt8) : Tok × Nat := match bk r with
  | none => (Tok.none, 0)
  | some (S, n) => (⟨1, S, 0, 0⟩, 1 + n)
def figs : List UInt8 → Nat → Option Nat
  | [], n => some n
  | c :: r, n => if c < 48 ∨ 57 < c then none else figs r (10 * n + (c.toNat - 48))
def numP (l : List UInt8) : Nat × Bool := if l = [] ∨ 3 < l.length then (0, false) else match figs l 0 with
  | none => (0, false)
  | some n => (n, decide (n ≤ 20))
def intT (m : Nat) (close : List UInt8) (r : List UInt8) : Tok × Nat :=
  let a := Lib.cut r close
  let b := Lib.cut a.1 [44]
  let lo := numP b.1
  let hi := numP b.2.1
  if a.2.2 = false ∨ lo.2 = false then (Tok.none, 0)
  else if b.2.2 = false then (repT lo.1 lo.1, m + a.1.length + close.length)
  else if b.2.1 = [] then (repT lo.1 (-1), m + a.1.length + close.length)
  else if hi.2 = false ∨ hi.1 < lo.1 then (Tok.none, 0)
  else (repT lo.1 hi.1, m + a.1.length + close.length)
def extT (bk : BkF) : List UInt8 → Tok × Nat
  | [] => (Tok.none, 0)
  | c :: r =>
    if c = 46 then (anyT, 1) else if c = 91 then brkT bk r else if c = 92 then escT escE r
    else if c = 94 then (Tok.of 2, 1) else if c = 36 then (Tok.of 3, 1) else if c = 40 then (Tok.of 4, 1) else if c = 41 then (Tok.of 5, 1)
    else if c = 124 then (Tok.of 6, 1) else if c = 42 then (repT 0 (-1), 1) else if c = 43 then (repT 1 (-1), 1) else if c = 63 then (repT 0 1, 1)
    else if c = 123 then intT 1 [125] r else (oneT c.toNat, 1)
def basEsc (r : List UInt8) : Tok × Nat :=
  if [40].isPrefixOf r = true then (Tok.of 4, 2) else if [41].isPrefixOf r = true then (Tok.of 5, 2)
  else if [123].isPrefixOf r = true then intT 2 [92, 125] (r.drop 1) else escT escB r
def basT (bk : BkF) (ahead : Int) : List UInt8 → Tok × Nat
  | [] => (Tok.none, 0)
  | c :: r =>
    if c = 46 then (anyT, 1) else if c = 91 then brkT bk r else if c = 92 then basEsc r
    else if c = 94 ∧ ahead = 4 then (Tok.of 2, 1)
    else if c = 36 ∧ (r = [] ∨ [92, 41].isPrefixOf r = true) then (Tok.of 3, 1)
    else if c = 42 ∧ ahead ≠ 4 ∧ ahead ≠ 2 then (repT 0 (-1), 1)
    else (oneT c.toNat, 1)
def firstT (bk : BkF) (ext : Bool) (ahead : Int) (l : List UInt8) : Tok × Nat := if ext = true then extT bk l else basT bk ahead l
def toksF (bk : BkF) (ext : Bool) : Nat → Int → List UInt8 → Option (List Tok)
  | _, _, [] => some []
  | 0, _, _ :: _ => none
  | n + 1, ahead, c :: r =>
    let t := firstT bk ext ahead (c :: r)
    if t.1.kind = 0 then none else (toksF bk ext n t.1.kind ((c :: r).drop t.2)).map (t.1 :: ·)
def headK : List Tok → Int
  | [] => 0
  | t :: _ => t.kind
def joinK (k : Int) : List PN → PN
  | [x] => x
  | l => .mk k noS 0 0 0 l
def repP (n : PN) : List Tok → PN × List Tok
  | [] => (n, [])
  | t :: r => if t.kind = 7 then (.mk 4 noS t.lo t.hi 0 [n], r) else (n, t :: r)
mutual
def altP : Nat → List PN → List Tok → Nat → Option (PN × List Tok × Nat)
  | 0, _, _, _ => none
  | f + 1, acc, l, g => match rowP f [] l g with
    | none => none
    | some (n, l1, g1) => if headK l1 = 6 then altP f (acc ++ [n]) (l1.drop 1) g1 else some (joinK 3 (acc ++ [n]), l1, g1)
def rowP : Nat → List PN → List Tok → Nat → Option (PN × List Tok × Nat)
  | 0, _, _, _ => none
  | f + 1, acc, l, g => match pieceP f l g with
    | none => none
    | some (n, l1, g1) => if headK l1 ≠ 0 ∧ headK l1 ≠ 6 ∧ headK l1 ≠ 5 then rowP f (acc ++ [n]) l1 g1 else some (joinK 2 (acc ++ [n]), l1, g1)
def pieceP : Nat → List Tok → Nat → Option (PN × List Tok × Nat)
  | 0, _, _ => none
  | _ + 1, [], _ => none
  | f + 1, t :: r, g =>
    if t.kind = 2 then some (.mk 6 noS 0 0 0 [], r, g) else if t.kind = 3 then some (.mk 7 noS 0 0 0 [], r, g)
    else if t.kind = 1 then some ((repP (.mk 1 t.set 0 0 0 []) r).1, (repP (.mk 1 t.set 0 0 0 []) r).2, g)
    else if t.kind = 4 then match groupP f r g with
      | none => none
      | some (n, l1, g1) => some ((repP n l1).1, (repP n l1).2, g1)
    else none
def groupP : Nat → List Tok → Nat → Option (PN × List Tok × Nat)
  | 0, _, _ => none
  | f + 1, r, g => match altP f [] r (g + 1) with
    | none => none
    | some (n, l1, g1) => if 9 < g + 1 ∨ headK l1 ≠ 5 then none else some (.mk 5 noS 0 0 ((g + 1 : Nat) : Int) [n], l1.drop 1, g1)
end
def parseP (bk : BkF) (ext : Bool) (l : List UInt8) : Option PN :=
  if 200 < l.length then none else match toksF bk ext 200 4 l with
  | none => none
  | some ts => match altP 1001 [] ts 0 with
    | some (n, r, _) => if headK r = 0 then some n else none
    | none => none
theorem repP_le (n : PN) (l : List Tok) : (repP n l).2.length ≤ l.length := by
  cases l with
  | nil => exact Nat.le_refl _
  | cons t r =>
    simp only [repP]
    split <;> simp
def Less (l : List Tok) (g : Nat) (x : Option (PN × List Tok × Nat)) : Prop := ∀ n l1 g1, x = some (n, l1, g1) → l1.length < l.length ∧ g1 + l1.length ≤ g + l.length
theorem parse_less : ∀ f : Nat, (∀ acc l g, Less l g (altP f acc l g)) ∧ (∀ acc l g, Less l g (rowP f acc l g)) ∧ (∀ l g, Less l g (pieceP f l g)) ∧ (∀ l g n l1 g1, groupP f l g = some (n, l1, g1) → l1.length < l.length ∧ g1 + l1.length ≤ g + 1 + l.length)
  | 0 => ⟨fun acc l g n l1 g1 h => by simp [altP] at h, fun acc l g n l1 g1 h => by simp [rowP] at h, fun l g n l1 g1 h => by simp [pieceP] at h, fun l g n l1 g1 h => by simp [groupP] at h⟩
  | f + 1 => by
    obtain ⟨ia, ir, ip, ig⟩ := parse_less f
    refine ⟨fun acc l g n l1 g1 h => ?_, fun acc l g n l1 g1 h => ?_, fun l g n l1 g1 h => ?_, fun l g n l1 g1 h => ?_⟩
    · simp only [altP] at h
      cases hr : rowP f [] l g with
      | none => rw [hr] at h; cases h
      | some x =>
        obtain ⟨m, l2, g2⟩ := x
        rw [hr] at h
        have h2 := ir _ _ _ _ _ _ hr
        simp only at h
        split at h
        · have h3 := ia _ _ _ _ _ _ h
          simp only [List.length_drop] at h3
          omega
        · cases h
          exact h2
    · simp only [rowP] at h
      cases hr : pieceP f l g with
      | none => rw [hr] at h; cases h
      | some x =>
        obtain ⟨m, l2, g2⟩ := x
        rw [hr] at h
        have h2 := ip _ _ _ _ _ hr
        simp only at h
        split at h
        · have h3 := ir _ _ _ _ _ _ h
          omega
        · cases h
          exact h2
    · cases l with
      | nil => simp [pieceP] at h
      | cons t r =>
        simp only [pieceP] at h
        split at h
        · cases h; simp only [List.length_cons]; omega
        · split at h
          · cases h; simp only [List.length_cons]; omega
          · split at h
            · cases h
              have := repP_le (.mk 1 t.set 0 0 0 []) r
              simp only [List.length_cons]; omega
            · split at h
              · cases hr : groupP f r g with
                | none => rw [hr] at h; cases h
                | some x =>
                  obtain ⟨m, l2, g2⟩ := x
                  rw [hr] at h
                  have h2 := ig _ _ _ _ _ hr
                  cases h
                  have := repP_le m l2
                  simp only [List.length_cons]; omega
              · cases h
    · simp only [groupP] at h
      cases hr : altP f [] l (g + 1) with
      | none => rw [hr] at h; cases h
      | some x =>
        obtain ⟨m, l2, g2⟩ := x
        rw [hr] at h
        have h2 := ia _ _ _ _ _ _ hr
        simp only at h
        split at h
        · cases h
        · cases h
          simp only [List.length_drop]
          omega
open Go.RowKit
abbrev Rel := Nat → Nat → Bool
def rowB : List Rel → Rel
  | [], i, j => i == j
  | r :: rs, i, j => (List.range (j + 1 - i)).any fun d => r i (i + d) && rowB rs (i + d) j
def chainB (K : Rel) : Nat → Rel
  | 0, i, j => i == j
  | r + 1, i, j => (List.range (j - i)).any fun d => K i (i + d + 1) && chainB K r (i + d + 1) j
def repB (K : Rel) (lo hi : Int) : Rel := fun i j => (List.range (j + 1 - i)).any fun (r : Nat) => chainB K r i j && (decide (hi < 0) || decide ((r : Int) ≤ hi)) && (decide (lo ≤ (r : Int)) || K j j)
def headR : List Rel → Rel
  | [] => fun i j => i == j
  | r :: _ => r
def oneB (T : List UInt8) (S : Nat → Nat) : Rel := fun i j => j == i + 1 && (match T[i]? with | some c => has S c.toNat | none => false)
def semK (T : List UInt8) (b : Bool) (k : Int) (S : Nat → Nat) (lo hi : Int) (rs : List Rel) : Rel :=
  if k = 1 then oneB T S else if k = 2 then rowB rs else if k = 3 then (fun i j => rs.any fun r => r i j) else if k = 4 then repB (headR rs) lo hi
  else if k = 5 then headR rs else if k = 6 then (fun i j => i == 0 && j == 0 && b) else if k = 7 then (fun i j => i == T.length && j == T.length) else fun i j => i == j
mutual
def semT (T : List UInt8) (b : Bool) : PN → Rel
  | .mk k S lo hi _ ks => semK T b k S lo hi (semL T b ks)
def semL (T : List UInt8) (b : Bool) : List PN → List Rel
  | [] => []
  | t :: ts => semT T b t :: semL T b ts
end
theorem semL_eq (T : List UInt8) (b : Bool) : ∀ ks : List PN, semL T b ks = ks.map (semT T b)
  | [] => by simp [semL]
  | t :: ts => by simp [semL, semL_eq T b ts]
abbrev Ev := Nat × Nat × Nat
def top (f : Nat → Bool) : Nat → Nat
  | 0 => 0
  | n + 1 => if f (n + 1) = true then n + 1 else top f n
abbrev EvF := Nat → Nat → List Ev
def rowE : List Rel → List EvF → EvF
  | r :: rs, e :: es, i, j =>
    let k := i + top (fun d => r i (i + d) && rowB rs (i + d) j) (j - i)
    e i k ++ rowE rs es k j
  | _, _, _, _ => []
def altE : List Rel → List EvF → EvF
  | r :: rs, e :: es, i, j => if r i j = true then e i j else altE rs es i j
  | _, _, _, _ => []
def decH (hi : Int) : Int := if hi < 0 then hi else hi - 1
def repE (K : Rel) (e : EvF) : Nat → Int → Int → EvF
  | 0, lo, _, i, _ => if 0 < lo then e i i else []
  | n + 1, lo, hi, i, j => if i = j then (if 0 < lo then e i i else []) else
    let k := i + top (fun d => decide (0 < d) && K i (i + d) && repB K (lo - 1) (decH hi) (i + d) j) (j - i)
    e i k ++ repE K e n (lo - 1) (decH hi) k j
def headE : List EvF → EvF
  | [] => fun _ _ => []
  | e :: _ => e
def evK (k lo hi num : Int) (rs : List Rel) (es : List EvF) : EvF := fun i j =>
  if k = 2 then rowE rs es i j else if k = 3 then altE rs es i j else if k = 4 then repE (headR rs) (headE es) (j - i) lo hi i j
  else if k = 5 then (if 1 ≤ num ∧ num ≤ 9 then [(num.toNat, i, j)] else []) ++ headE es i j else []
mutual
def evT (T : List UInt8) (b : Bool) : PN → EvF
  | .mk k _ lo hi num ks => evK k lo hi num (semL T b ks) (evL T b ks)
def evL (T : List UInt8) (b : Bool) : List PN → List EvF
  | [] => []
  | t :: ts => evT T b t :: evL T b ts
end
theorem evL_eq (T : List UInt8) (b : Bool) : ∀ ks : List PN, evL T b ks = ks.map (evT T b)
  | [] => by simp [evL]
  | t :: ts => by simp [evL, evL_eq T b ts]
theorem any_range {n : Nat} {f : Nat → Bool} : (List.range n).any f = true ↔ ∃ d, d < n ∧ f d = true := by
  simp [List.any_eq_true, List.mem_range]
theorem rowB_nil {i j : Nat} : rowB [] i j = true ↔ i = j := by simp [rowB]
theorem rowB_cons {r : Rel} {rs : List Rel} {i j : Nat} : rowB (r :: rs) i j = true ↔ ∃ k, i ≤ k ∧ k ≤ j ∧ r i k = true ∧ rowB rs k j = true := by
  rw [rowB, any_range]
  constructor
  · rintro ⟨d, hd, h⟩
    rw [Bool.and_eq_true] at h
    exact ⟨i + d, by omega, by omega, h.1, h.2⟩
  · rintro ⟨k, h1, h2, h3, h4⟩
    refine ⟨k - i, by omega, ?_⟩
    rw [show i + (k - i) = k by omega, h3, h4]
    rfl
theorem rowB_le {rs : List Rel} {i j : Nat} (h : rowB rs i j = true) : i ≤ j := by
  cases rs with
  | nil => rw [rowB_nil] at h; omega
  | cons r rs => obtain ⟨k, h1, h2, _⟩ := rowB_cons.1 h; omega
theorem rowB_snoc {rs : List Rel} {r : Rel} (hr : ∀ i j, r i j = true → i ≤ j) : ∀ {i j : Nat}, rowB (rs ++ [r]) i j = true ↔ ∃ k, i ≤ k ∧ k ≤ j ∧ rowB rs i k = true ∧ r k j = true := by
  induction rs with
  | nil =>
    intro i j
    rw [List.nil_append, rowB_cons]
    constructor
    · rintro ⟨k, h1, h2, h3, h4⟩
      rw [rowB_nil] at h4
      subst h4
      exact ⟨i, Nat.le_refl _, h1, rowB_nil.2 rfl, h3⟩
    · rintro ⟨k, h1, h2, h3, h4⟩
      rw [rowB_nil] at h3
      subst h3
      exact ⟨j, hr _ _ h4, Nat.le_refl _, h4, rowB_nil.2 rfl⟩
  | cons q qs ih =>
    intro i j
    rw [List.cons_append, rowB_cons]
    constructor
    · rintro ⟨k, h1, h2, h3, h4⟩
      obtain ⟨m, m1, m2, m3, m4⟩ := ih.1 h4
      exact ⟨m, by omega, m2, rowB_cons.2 ⟨k, h1, m1, h3, m3⟩, m4⟩
    · rintro ⟨m, h1, h2, h3, h4⟩
      obtain ⟨k, k1, k2, k3, k4⟩ := rowB_cons.1 h3
      exact ⟨k, k1, by omega, k3, ih.2 ⟨m, k2, h2, k4, h4⟩⟩
theorem chain_zero {K : Rel} {i j : Nat} : chainB K 0 i j = true ↔ i = j := by simp [chainB]
theorem chain_succ {K : Rel} {r i j : Nat} : chainB K (r + 1) i j = true ↔ ∃ k, i < k ∧ k ≤ j ∧ K i k = true ∧ chainB K r k j = true := by
  rw [chainB, any_range]
  constructor
  · rintro ⟨d, hd, h⟩
    rw [Bool.and_eq_true] at h
    exact ⟨i + d + 1, by omega, by omega, h.1, h.2⟩
  · rintro ⟨k, h1, h2, h3, h4⟩
    refine ⟨k - i - 1, by omega, ?_⟩
    rw [show i + (k - i - 1) + 1 = k by omega, h3, h4]
    rfl
theorem chain_le {K : Rel} : ∀ {r i j : Nat}, chainB K r i j = true → i + r ≤ j
  | 0, i, j, h => by rw [chain_zero] at h; omega
  | r + 1, i, j, h => by
    obtain ⟨k, h1, h2, _, h4⟩ := chain_succ.1 h
    have := chain_le h4
    omega
theorem chain_snoc {K : Rel} : ∀ {r i j : Nat}, chainB K (r + 1) i j = true ↔ ∃ k, i ≤ k ∧ k < j ∧ chainB K r i k = true ∧ K k j = true
  | 0, i, j => by
    rw [chain_succ]
    constructor
    · rintro ⟨k, h1, h2, h3, h4⟩
      rw [chain_zero] at h4
      subst h4
      exact ⟨i, Nat.le_refl _, h1, chain_zero.2 rfl, h3⟩
    · rintro ⟨k, h1, h2, h3, h4⟩
      rw [chain_zero] at h3
      subst h3
      exact ⟨j, h2, Nat.le_refl _, h4, chain_zero.2 rfl⟩
  | r + 1, i, j => by
    rw [chain_succ]
    constructor
    · rintro ⟨k, h1, h2, h3, h4⟩
      obtain ⟨m, m1, m2, m3, m4⟩ := chain_snoc.1 h4
      exact ⟨m, by omega, m2, chain_succ.2 ⟨k, h1, m1, h3, m3⟩, m4⟩
    · rintro ⟨m, h1, h2, h3, h4⟩
      obtain ⟨k, k1, k2, k3, k4⟩ := chain_succ.1 h3
      exact ⟨k, k1, by omega, k3, chain_snoc.2 ⟨m, k2, h2, k4, h4⟩⟩
theorem repB_iff {K : Rel} {lo hi : Int} {i j : Nat} : repB K lo hi i j = true ↔ ∃ r : Nat, chainB K r i j = true ∧ (hi < 0 ∨ (r : Int) ≤ hi) ∧ (lo ≤ (r : Int) ∨ K j j = true) := by
  rw [repB, any_range]
  constructor
  · rintro ⟨r, hr, h⟩
    simp only [Bool.and_eq_true, Bool.or_eq_true, decide_eq_true_eq] at h
    exact ⟨r, h.1.1, h.1.2, h.2⟩
  · rintro ⟨r, h1, h2, h3⟩
    have := chain_le h1
    refine ⟨r, by omega, ?_⟩
    simp only [Bool.and_eq_true, Bool.or_eq_true, decide_eq_true_eq]
    exact ⟨⟨h1, h2⟩, h3⟩
def FitR (N : Nat) (r : Rel) : Prop := ∀ i j, r i j = true → i ≤ j ∧ (i ≤ N → j ≤ N)
theorem FitR.nothing (N : Nat) : FitR N (fun i j => i == j) := fun i j h => by
  rw [beq_iff_eq] at h
  subst h
  exact ⟨Nat.le_refl _, id⟩
theorem FitR.row {N : Nat} : ∀ {rs : List Rel}, (∀ r ∈ rs, FitR N r) → FitR N (rowB rs)
  | [], _, i, j, h => by
    rw [rowB_nil] at h
    subst h
    exact ⟨Nat.le_refl _, id⟩
  | r :: rs, hf, i, j, h => by
    obtain ⟨k, h1, h2, h3, h4⟩ := rowB_cons.1 h
    have a := hf r (List.mem_cons_self ..) i k h3
    have c := FitR.row (fun q hq => hf q (List.mem_cons_of_mem _ hq)) k j h4
    exact ⟨by omega, fun h => c.2 (a.2 h)⟩
theorem FitR.chain {N : Nat} {K : Rel} (hK : FitR N K) : ∀ {r : Nat}, FitR N (chainB K r)
  | 0, i, j, h => by
    rw [chain_zero] at h
    subst h
    exact ⟨Nat.le_refl _, id⟩
  | r + 1, i, j, h => by
    obtain ⟨k, h1, h2, h3, h4⟩ := chain_succ.1 h
    exact ⟨by omega, fun h => (FitR.chain hK k j h4).2 ((hK i k h3).2 h)⟩
theorem FitR.head {N : Nat} {rs : List Rel} (h : ∀ r ∈ rs, FitR N r) : FitR N (headR rs) := by
  cases rs with
  | nil => exact FitR.nothing N
  | cons r rs => exact h r (List.mem_cons_self ..)
theorem FitR.sem {T : List UInt8} {b : Bool} {k : Int} {S : Nat → Nat} {lo hi : Int} {rs : List Rel} (h : ∀ r ∈ rs, FitR T.length r) : FitR T.length (semK T b k S lo hi rs) := by
  unfold semK
  split
  · intro i j h
    simp only [oneB, Bool.and_eq_true, beq_iff_eq] at h
    obtain ⟨rfl, h⟩ := h
    cases hc : T[i]? with
    | none => rw [hc] at h; cases h
    | some c =>
      have := (List.getElem?_eq_some_iff.1 hc).1
      exact ⟨by omega, fun _ => by omega⟩
  split
  · exact FitR.row h
  split
  · intro i j hh
    obtain ⟨r, hr, hh⟩ := List.any_eq_true.1 hh
    exact h r hr i j hh
  split
  · intro i j hh
    obtain ⟨r, h1, _⟩ := repB_iff.1 hh
    exact FitR.chain (FitR.head h) i j h1
  split
  · exact FitR.head h
  split
  · intro i j hh
    simp only [Bool.and_eq_true, beq_iff_eq] at hh
    obtain ⟨⟨rfl, rfl⟩, _⟩ := hh
    exact ⟨Nat.le_refl _, id⟩
  split
  · intro i j hh
    simp only [Bool.and_eq_true, beq_iff_eq] at hh
    obtain ⟨rfl, rfl⟩ := hh
    exact ⟨Nat.le_refl _, id⟩
  · exact FitR.nothing _
mutual
theorem fit_T (T : List UInt8) (b : Bool) : ∀ t : PN, FitR T.length (semT T b t)
  | .mk k S lo hi num ks => by
    rw [semT]
    exact FitR.sem (fit_L T b ks)
theorem fit_L (T : List UInt8) (b : Bool) : ∀ ks : List PN, ∀ r ∈ semL T b ks, FitR T.length r
  | [], r, h => by simp [semL] at h
  | t :: ts, r, h => by
    rw [semL, List.mem_cons] at h
    rcases h with rfl | h
    · exact fit_T T b t
    · exact fit_L T b ts r h
end
def spot (T : List UInt8) (b : Bool) (i : Nat) : Nat := if i = 0 ∧ b = true then (if i = T.length then 3 else 1) else if i = T.length then 2 else 0
def headN : List Nat → Nat
  | [] => 15
  | e :: _ => e
def orN : List Nat → Nat
  | [] => 0
  | e :: es => e ||| orN es
def andN : List Nat → Nat
  | [] => 15
  | e :: es => e &&& andN es
def empK (k lo : Int) (es : List Nat) : Nat :=
  if k = 1 then 0 else if k = 2 then andN es else if k = 3 then orN es else if k = 4 then (if lo ≤ 0 then 15 else headN es) else if k = 5 then headN es else if k = 6 then 10 else if k = 7 then 12 else 15
mutual
def empT : PN → Nat
  | .mk k _ lo _ _ ks => empK k lo (empL ks)
def empL : List PN → List Nat
  | [] => []
  | t :: ts => empT t :: empL ts
end
structure EmpR (T : List UInt8) (b : Bool) (e : Nat) (r : Rel) : Prop where
  lt : e < 16
  all : e.testBit 0 = true → e = 15
  is : ∀ i, i ≤ T.length → e.testBit (spot T b i) = r i i
inductive Side {α β : Type} (R : α → β → Prop) : List α → List β → Prop
  | nil : Side R [] []
  | cons {a : α} {b : β} {l : List α} {m : List β} (h : R a b) (t : Side R l m) : Side R (a :: l) (b :: m)
theorem bits15 : ∀ s, s < 4 → (15 : Nat).testBit s = true := by decide
theorem spot_lt (T : List UInt8) (b : Bool) (i : Nat) : spot T b i < 4 := by
  unfold spot
  split <;> split <;> omega
theorem EmpR.full {T : List UInt8} {b : Bool} {r : Rel} (h : ∀ i, i ≤ T.length → r i i = true) : EmpR T b 15 r :=
  ⟨by omega, fun _ => rfl, fun i hi => by rw [h i hi]; exact bits15 _ (spot_lt T b i)⟩
def imp15 (a : Nat) : Bool := !a.testBit 0 || a == 15
theorem imp15_iff {a : Nat} : imp15 a = true ↔ (a.testBit 0 = true → a = 15) := by
  unfold imp15
  cases a.testBit 0 <;> simp
theorem small_orB : ∀ a b : Fin 16, ((a.val ||| b.val) < 16 && (!imp15 a.val || !imp15 b.val || imp15 (a.val ||| b.val))) = true := by decide
theorem small_andB : ∀ a b : Fin 16, ((a.val &&& b.val) < 16 && (!imp15 a.val || !imp15 b.val || imp15 (a.val &&& b.val))) = true := by decide
theorem small_or (a : Nat) (ha : a < 16) (b : Nat) (hb : b < 16) : (a ||| b) < 16 ∧ ((a.testBit 0 = true → a = 15) → (b.testBit 0 = true → b = 15) → (a ||| b).testBit 0 = true → (a ||| b) = 15) := by
  have h := small_orB ⟨a, ha⟩ ⟨b, hb⟩
  simp only [Bool.and_eq_true, decide_eq_true_eq] at h
  refine ⟨h.1, fun h1 h2 => ?_⟩
  have h3 := h.2
  rw [imp15_iff.2 h1, imp15_iff.2 h2] at h3
  exact imp15_iff.1 (by simpa using h3)
theorem small_and (a : Nat) (ha : a < 16) (b : Nat) (hb : b < 16) : (a &&& b) < 16 ∧ ((a.testBit 0 = true → a = 15) → (b.testBit 0 = true → b = 15) → (a &&& b).testBit 0 = true → (a &&& b) = 15) := by
  have h := small_andB ⟨a, ha⟩ ⟨b, hb⟩
  simp only [Bool.and_eq_true, decide_eq_true_eq] at h
  refine ⟨h.1, fun h1 h2 => ?_⟩
  have h3 := h.2
  rw [imp15_iff.2 h1, imp15_iff.2 h2] at h3
  exact imp15_iff.1 (by simpa using h3)
theorem or_emp {T : List UInt8} {b : Bool} : ∀ {es : List Nat} {rs : List Rel}, Side (EmpR T b) es rs → EmpR T b (orN es) (fun i j => rs.any fun r => r i j)
  | [], [], _ => ⟨by decide, fun h => by simp [orN] at h, fun i _ => by simp [orN]⟩
  | e :: es, r :: rs, .cons h1 h2 => by
    have ih := or_emp h2
    have hs := small_or e h1.lt (orN es) ih.lt
    refine ⟨hs.1, hs.2 h1.all ih.all, fun i hi => ?_⟩
    rw [orN, Nat.testBit_or, h1.is i hi, ih.is i hi]
    simp
theorem and_emp {T : List UInt8} {b : Bool} : ∀ {es : List Nat} {rs : List Rel}, (∀ r ∈ rs, FitR T.length r) → Side (EmpR T b) es rs → EmpR T b (andN es) (rowB rs)
  | [], [], _, _ => EmpR.full fun i _ => rowB_nil.2 rfl
  | e :: es, r :: rs, hf, .cons h1 h2 => by
    have ih := and_emp (fun q hq => hf q (List.mem_cons_of_mem _ hq)) h2
    have hs := small_and e h1.lt (andN es) ih.lt
    refine ⟨hs.1, hs.2 h1.all ih.all, fun i hi => ?_⟩
    rw [andN, Nat.testBit_and, h1.is i hi, ih.is i hi, Bool.eq_iff_iff, Bool.and_eq_true, rowB_cons]
    constructor
    · rintro ⟨a, c⟩
      exact ⟨i, Nat.le_refl _, Nat.le_refl _, a, c⟩
    · rintro ⟨k, k1, k2, k3, k4⟩
      have : k = i := by omega
      subst this
      exact ⟨k3, k4⟩
theorem head_emp {T : List UInt8} {b : Bool} {es : List Nat} {rs : List Rel} (h : Side (EmpR T b) es rs) : EmpR T b (headN es) (headR rs) := by
  cases h with
  | nil => exact EmpR.full fun i _ => by simp [headR]
  | cons h _ => exact h
theorem EmpR.sem {T : List UInt8} {b : Bool} {k : Int} {S : Nat → Nat} {lo hi : Int} {es : List Nat} {rs : List Rel} (hf : ∀ r ∈ rs, FitR T.length r) (h : Side (EmpR T b) es rs) : EmpR T b (empK k lo es) (semK T b k S lo hi rs) := by
  unfold empK semK
  split
  · refine ⟨by decide, fun h => by simp at h, fun i hi => ?_⟩
    simp [oneB]
  split
  · exact and_emp hf h
  split
  · exact or_emp h
  split
  · have hh := head_emp h
    have hr : ∀ i, repB (headR rs) lo hi i i = (decide (lo ≤ 0) || headR rs i i) := fun i => by
      rw [Bool.eq_iff_iff, repB_iff, Bool.or_eq_true, decide_eq_true_eq]
      constructor
      · rintro ⟨r, h1, _, h3⟩
        have := chain_le h1
        have h0 : r = 0 := by omega
        subst h0
        exact h3
      · intro h
        exact ⟨0, chain_zero.2 rfl, by omega, h⟩
    split
    · rename_i h0
      exact EmpR.full fun i _ => by rw [hr, decide_eq_true h0, Bool.true_or]
    · rename_i h0
      exact ⟨hh.lt, hh.all, fun i hi => by rw [hr, decide_eq_false h0, Bool.false_or]; exact hh.is i hi⟩
  split
  · exact head_emp h
  split
  · refine ⟨by decide, fun h => by simp at h, fun i hi => ?_⟩
    unfold spot
    generalize T.length = N
    by_cases h0 : i = 0
    · subst h0
      by_cases hN : N = 0
      · subst hN
        cases b <;> decide
      · have hN' : ¬ 0 = N := fun h => hN h.symm
        have e0 : ((0 : Nat) == N) = false := by rw [beq_eq_false_iff_ne]; exact hN'
        cases b <;> simp [hN'] <;> decide
    · have e1 : (i == 0) = false := by rw [beq_eq_false_iff_ne]; exact h0
      by_cases hN : i = N
      · subst hN
        simp [h0, e1]
        try decide
      · have e2 : (i == N) = false := by rw [beq_eq_false_iff_ne]; exact hN
        simp [h0, hN, e1]
  split
  · refine ⟨by decide, fun h => by simp at h, fun i hi => ?_⟩
    unfold spot
    generalize T.length = N
    by_cases h0 : i = 0
    · subst h0
      by_cases hN : N = 0
      · subst hN
        cases b <;> decide
      · have hN' : ¬ 0 = N := fun h => hN h.symm
        have e0 : ((0 : Nat) == N) = false := by rw [beq_eq_false_iff_ne]; exact hN'
        cases b <;> simp [hN', e0] <;> decide
    · have e1 : (i == 0) = false := by rw [beq_eq_false_iff_ne]; exact h0
      by_cases hN : i = N
      · subst hN
        simp [h0]
        try decide
      · have e2 : (i == N) = false := by rw [beq_eq_false_iff_ne]; exact hN
        simp [h0, hN, e2]
  · exact EmpR.full fun i _ => by simp
mutual
theorem emp_T (T : List UInt8) (b : Bool) : ∀ t : PN, EmpR T b (empT t) (semT T b t)
  | .mk k S lo hi num ks => by
    rw [empT, semT]
    exact EmpR.sem (fit_L T b ks) (emp_L T b ks)
theorem emp_L (T : List UInt8) (b : Bool) : ∀ ks : List PN, Side (EmpR T b) (empL ks) (semL T b ks)
  | [] => by simp only [empL, semL]; exact .nil
  | t :: ts => by simp only [empL, semL]; exact .cons (emp_T T b t) (emp_L T b ts)
end
open Go.RowKit
structure EndsR (L : Nat) (r : Rel) (P R : Nat → Bool) : Prop where
  snd : ∀ j, R j = true → ∃ i, P i = true ∧ i < j ∧ r i j = true
  cpl : ∀ i j, P i = true → i < j → j ≤ L → r i j = true → R j = true
def InN (N : Nat) (P : Nat → Bool) : Prop := ∀ j, P j = true → j ≤ N
def orB (P Q : Nat → Bool) (j : Nat) : Bool := P j || Q j
def atB (r : Rel) (P : Nat → Bool) (j : Nat) : Bool := P j && r j j
def noneB (_ : Nat) : Bool := false
theorem orB_iff {P Q : Nat → Bool} {j : Nat} : orB P Q j = true ↔ P j = true ∨ Q j = true := by simp [orB]
theorem atB_iff {r : Rel} {P : Nat → Bool} {j : Nat} : atB r P j = true ↔ P j = true ∧ r j j = true := by simp [atB]
theorem InN.or {N : Nat} {P Q : Nat → Bool} (h : InN N P) (k : InN N Q) : InN N (orB P Q) := fun j hj => (orB_iff.1 hj).elim (h j) (k j)
theorem InN.at {N : Nat} {P : Nat → Bool} (h : InN N P) (r : Rel) : InN N (atB r P) := fun j hj => h j (atB_iff.1 hj).1
theorem InN.none (N : Nat) : InN N noneB := fun j hj => by cases hj
theorem EndsR.inN {L N : Nat} {r : Rel} {P R : Nat → Bool} (h : EndsR L r P R) (hf : FitR N r) (hP : InN N P) : InN N R := fun j hj => by
  obtain ⟨i, h1, _, h3⟩ := h.snd j hj
  exact (hf i j h3).2 (hP i h1)
theorem EndsR.congr {L : Nat} {r : Rel} {P P' R R' : Nat → Bool} (h : EndsR L r P R) (hP : ∀ j, P j = P' j) (hR : ∀ j, R j = R' j) : EndsR L r P' R' := by
  have e1 : P = P' := funext hP
  have e2 : R = R' := funext hR
  rw [← e1, ← e2]
  exact h
theorem EndsR.less {L L' : Nat} {r : Rel} {P R : Nat → Bool} (h : EndsR L r P R) (hl : L' ≤ L) : EndsR L' r P R := ⟨h.snd, fun i j a b c d => h.cpl i j a b (Nat.le_trans c hl) d⟩
theorem EndsR.rel {L N : Nat} {r q : Rel} {P R : Nat → Bool} (h : EndsR L r P R) (hP : InN N P) (he : ∀ i j, i ≤ N → i < j → (r i j = true ↔ q i j = true)) : EndsR L q P R :=
  ⟨fun j hj => by
    obtain ⟨i, h1, h2, h3⟩ := h.snd j hj
    exact ⟨i, h1, h2, (he i j (hP i h1) h2).1 h3⟩, fun i j a b c d => h.cpl i j a b c ((he i j (hP i a) b).2 d)⟩
theorem EndsR.none {L : Nat} {r : Rel} {P : Nat → Bool} (h : ∀ i j, i < j → r i j = false) : EndsR L r P noneB :=
  ⟨fun j hj => (by cases hj), fun i j _ b _ d => by rw [h i j b] at d; cases d⟩
structure RowI (L : Nat) (rs : List Rel) (P still moved : Nat → Bool) : Prop where
  st : ∀ j, still j = true ↔ P j = true ∧ rowB rs j j = true
  mv : EndsR L (rowB rs) P moved
theorem RowI.start (L : Nat) (P : Nat → Bool) : RowI L [] P P noneB :=
  ⟨fun j => by simp [rowB_nil], ⟨fun j hj => (by cases hj), fun i j _ b _ d => by rw [rowB_nil] at d; omega⟩⟩
theorem rowB_snoc_at {N : Nat} {rs : List Rel} {r : Rel} (hr : FitR N r) {j : Nat} : rowB (rs ++ [r]) j j = true ↔ rowB rs j j = true ∧ r j j = true := by
  rw [rowB_snoc (fun i j h => (hr i j h).1)]
  constructor
  · rintro ⟨k, h1, h2, h3, h4⟩
    have : k = j := by omega
    subst this
    exact ⟨h3, h4⟩
  · rintro ⟨h1, h2⟩
    exact ⟨j, Nat.le_refl _, Nat.le_refl _, h1, h2⟩
theorem RowI.step {L N : Nat} {rs : List Rel} {r : Rel} {P still moved lo : Nat → Bool} (h : RowI L rs P still moved) (hr : FitR N r) (hl : EndsR L r (orB still moved) lo) :
    RowI L (rs ++ [r]) P (atB r still) (orB lo (atB r moved)) := by
  have hle : ∀ i j, r i j = true → i ≤ j := fun i j h => (hr i j h).1
  refine ⟨fun j => ?_, ⟨fun j hj => ?_, fun i j a b c d => ?_⟩⟩
  · rw [atB_iff, h.st, rowB_snoc_at hr, and_assoc]
  · rcases orB_iff.1 hj with hj | hj
    · obtain ⟨k, h1, h2, h3⟩ := hl.snd j hj
      rcases orB_iff.1 h1 with h1 | h1
      · obtain ⟨a, b⟩ := (h.st k).1 h1
        exact ⟨k, a, h2, (rowB_snoc hle).2 ⟨k, Nat.le_refl _, Nat.le_of_lt h2, b, h3⟩⟩
      · obtain ⟨i, a, b, c⟩ := h.mv.snd k h1
        exact ⟨i, a, by omega, (rowB_snoc hle).2 ⟨k, Nat.le_of_lt b, Nat.le_of_lt h2, c, h3⟩⟩
    · obtain ⟨h1, h2⟩ := atB_iff.1 hj
      obtain ⟨i, a, b, c⟩ := h.mv.snd j h1
      exact ⟨i, a, b, (rowB_snoc hle).2 ⟨j, Nat.le_of_lt b, Nat.le_refl _, c, h2⟩⟩
  · obtain ⟨k, k1, k2, k3, k4⟩ := (rowB_snoc hle).1 d
    rw [orB_iff]
    rcases Nat.lt_or_ge i k with e | e
    · have hm := h.mv.cpl i k a e (by omega) k3
      rcases Nat.lt_or_ge k j with f | f
      · exact .inl (hl.cpl k j (orB_iff.2 (.inr hm)) f c k4)
      · have : k = j := by omega
        subst this
        exact .inr (atB_iff.2 ⟨hm, k4⟩)
    · have : k = i := by omega
      subst this
      exact .inl (hl.cpl k j (orB_iff.2 (.inl ((h.st k).2 ⟨a, k3⟩))) b c k4)
theorem rowB_append {rs qs : List Rel} : ∀ {i j : Nat}, rowB (rs ++ qs) i j = true → ∃ k, i ≤ k ∧ k ≤ j ∧ rowB rs i k = true ∧ rowB qs k j = true := by
  induction rs with
  | nil =>
    intro i j h
    exact ⟨i, Nat.le_refl _, rowB_le h, rowB_nil.2 rfl, h⟩
  | cons r rs ih =>
    intro i j h
    obtain ⟨k, h1, h2, h3, h4⟩ := rowB_cons.1 h
    obtain ⟨m, m1, m2, m3, m4⟩ := ih h4
    exact ⟨m, by omega, m2, rowB_cons.2 ⟨k, h1, m1, h3, m3⟩, m4⟩
theorem RowI.stop {L : Nat} {rs : List Rel} {P still moved : Nat → Bool} (h : RowI L rs P still moved) (hs : ∀ j, still j = false) (hm : ∀ j, moved j = false) (qs : List Rel) : EndsR L (rowB (rs ++ qs)) P moved := by
  refine ⟨fun j hj => (by rw [hm j] at hj; cases hj), fun i j a b c d => ?_⟩
  obtain ⟨k, k1, k2, k3, k4⟩ := rowB_append d
  rcases Nat.lt_or_ge i k with e | e
  · have := h.mv.cpl i k a e (by omega) k3
    rw [hm k] at this
    cases this
  · have : k = i := by omega
    subst this
    have := (h.st k).2 ⟨a, k3⟩
    rw [hs k] at this
    cases this
theorem EndsR.any_nil (L : Nat) (P : Nat → Bool) : EndsR L (fun i j => ([] : List Rel).any fun r => r i j) P noneB := EndsR.none fun _ _ _ => rfl
theorem EndsR.any_snoc {L : Nat} {rs : List Rel} {r : Rel} {P R R' : Nat → Bool} (h : EndsR L (fun i j => rs.any fun r => r i j) P R) (h' : EndsR L r P R') : EndsR L (fun i j => (rs ++ [r]).any fun r => r i j) P (orB R R') := by
  refine ⟨fun j hj => ?_, fun i j a b c d => ?_⟩
  · rcases orB_iff.1 hj with hj | hj
    · obtain ⟨i, h1, h2, h3⟩ := h.snd j hj
      exact ⟨i, h1, h2, by rw [List.any_append, h3]; rfl⟩
    · obtain ⟨i, h1, h2, h3⟩ := h'.snd j hj
      exact ⟨i, h1, h2, by rw [List.any_append]; simp [h3]⟩
  · rw [List.any_append, Bool.or_eq_true] at d
    rw [orB_iff]
    rcases d with d | d
    · exact .inl (h.cpl i j a b c d)
    · exact .inr (h'.cpl i j a b c (by simpa using d))
theorem chain_add {K : Rel} : ∀ {a b i k j : Nat}, chainB K a i k = true → chainB K b k j = true → chainB K (a + b) i j = true
  | 0, b, i, k, j, h1, h2 => by
    rw [chain_zero] at h1
    subst h1
    rw [Nat.zero_add]
    exact h2
  | a + 1, b, i, k, j, h1, h2 => by
    obtain ⟨m, m1, m2, m3, m4⟩ := chain_succ.1 h1
    have := chain_add m4 h2
    rw [show a + 1 + b = (a + b) + 1 by omega]
    exact chain_succ.2 ⟨m, m1, by have := chain_le this; omega, m3, this⟩
theorem chain_cut {K : Rel} : ∀ {a b i j : Nat}, chainB K (a + b) i j = true → ∃ k, i ≤ k ∧ k ≤ j ∧ chainB K a i k = true ∧ chainB K b k j = true
  | 0, b, i, j, h => by
    rw [Nat.zero_add] at h
    exact ⟨i, Nat.le_refl _, by have := chain_le h; omega, chain_zero.2 rfl, h⟩
  | a + 1, b, i, j, h => by
    rw [show a + 1 + b = (a + b) + 1 by omega] at h
    obtain ⟨m, m1, m2, m3, m4⟩ := chain_succ.1 h
    obtain ⟨k, k1, k2, k3, k4⟩ := chain_cut m4
    exact ⟨k, by omega, k2, chain_succ.2 ⟨m, m1, k1, m3, k3⟩, k4⟩
theorem chain_one {K : Rel} {i j : Nat} : chainB K 1 i j = true ↔ i < j ∧ K i j = true := by
  rw [chain_succ]
  constructor
  · rintro ⟨k, h1, h2, h3, h4⟩
    rw [chain_zero] at h4
    subst h4
    exact ⟨h1, h3⟩
  · rintro ⟨h1, h2⟩
    exact ⟨j, h1, Nat.le_refl _, h2, chain_zero.2 rfl⟩
def Rch (K : Rel) (P : Nat → Bool) (r j : Nat) : Prop := ∃ i, P i = true ∧ chainB K r i j = true
theorem Rch.zero {K : Rel} {P : Nat → Bool} {j : Nat} : Rch K P 0 j ↔ P j = true := by
  constructor
  · rintro ⟨i, h1, h2⟩
    rw [chain_zero] at h2
    rw [← h2]
    exact h1
  · intro h
    exact ⟨j, h, chain_zero.2 rfl⟩
theorem Rch.add {K : Rel} {P : Nat → Bool} {a b k j : Nat} (h : Rch K P a k) (h2 : chainB K b k j = true) : Rch K P (a + b) j := by
  obtain ⟨i, h1, h3⟩ := h
  exact ⟨i, h1, chain_add h3 h2⟩
theorem Rch.cut {K : Rel} {P : Nat → Bool} {a b j : Nat} (h : Rch K P (a + b) j) : ∃ k, k ≤ j ∧ Rch K P a k ∧ chainB K b k j = true := by
  obtain ⟨i, h1, h3⟩ := h
  obtain ⟨k, _, k2, k3, k4⟩ := chain_cut h3
  exact ⟨k, k2, ⟨i, h1, k3⟩, k4⟩
theorem Rch.pos {K : Rel} {P : Nat → Bool} {r j : Nat} (h : Rch K P r j) : r ≤ j := by
  obtain ⟨i, _, h⟩ := h
  have := chain_le h
  omega
theorem Rch.inN {K : Rel} {P : Nat → Bool} {N r j : Nat} (h : Rch K P r j) (hK : FitR N K) (hP : InN N P) : j ≤ N := by
  obtain ⟨i, h1, h⟩ := h
  exact (FitR.chain hK i j h).2 (hP i h1)
structure FrontR (L : Nat) (K : Rel) (P : Nat → Bool) (r : Nat) (F : Nat → Bool) : Prop where
  snd : ∀ j, F j = true → Rch K P r j
  cpl : ∀ j, j ≤ L → Rch K P r j → F j = true
theorem FrontR.zero (L : Nat) (K : Rel) (P : Nat → Bool) : FrontR L K P 0 P := ⟨fun _ h => Rch.zero.2 h, fun _ _ h => Rch.zero.1 h⟩
theorem FrontR.step {L : Nat} {K : Rel} {P : Nat → Bool} {r : Nat} {F G : Nat → Bool} (h : FrontR L K P r F) (hG : EndsR L K F G) : FrontR L K P (r + 1) G := by
  refine ⟨fun j hj => ?_, fun j hl hj => ?_⟩
  · obtain ⟨k, h1, h2, h3⟩ := hG.snd j hj
    exact (h.snd k h1).add (chain_one.2 ⟨h2, h3⟩)
  · obtain ⟨k, h1, h2, h3⟩ := hj.cut
    obtain ⟨h3, h4⟩ := chain_one.1 h3
    exact hG.cpl k j (h.cpl k (by omega) h2) h3 hl h4
structure FewR (L : Nat) (K : Rel) (P : Nat → Bool) (d : Nat) (E : Nat → Bool) : Prop where
  snd : ∀ j, E j = true → ∃ r, 1 ≤ r ∧ r ≤ d ∧ Rch K P r j ∧ K j j = true
  cpl : ∀ r j, 1 ≤ r → r ≤ d → j ≤ L → Rch K P r j → K j j = true → E j = true
theorem FewR.zero (L : Nat) (K : Rel) (P : Nat → Bool) : FewR L K P 0 noneB := ⟨fun _ h => (by cases h), fun r _ h1 h2 => by omega⟩
theorem FewR.step {L : Nat} {K : Rel} {P : Nat → Bool} {d : Nat} {E F : Nat → Bool} (h : FewR L K P d E) (hF : FrontR L K P (d + 1) F) : FewR L K P (d + 1) (orB E (atB K F)) := by
  refine ⟨fun j hj => ?_, fun r j h1 h2 hl h3 h4 => ?_⟩
  · rcases orB_iff.1 hj with hj | hj
    · obtain ⟨r, a, b, c⟩ := h.snd j hj
      exact ⟨r, a, by omega, c⟩
    · obtain ⟨a, b⟩ := atB_iff.1 hj
      exact ⟨d + 1, by omega, Nat.le_refl _, hF.snd j a, b⟩
  · rw [orB_iff]
    rcases Nat.lt_or_ge d r with e | e
    · have : r = d + 1 := by omega
      subst this
      exact .inr (atB_iff.2 ⟨hF.cpl j hl h3, h4⟩)
    · exact .inl (h.cpl r j h1 e hl h3 h4)
structure LeastR (N : Nat) (K : Rel) (lo : Int) (least : Nat) : Prop where
  or : (least = 0 ∧ ∀ j, j ≤ N → K j j = true) ∨ (least = lo.toNat ∧ ∀ j, 0 < j → j < N → K j j = false)
theorem LeastR.ok {N : Nat} {K : Rel} {lo : Int} {least : Nat} (h : LeastR N K lo least) {r j : Nat} (hr : least ≤ r) (hj : j ≤ N) : lo ≤ (r : Int) ∨ K j j = true := by
  rcases h.or with ⟨_, h⟩ | ⟨h, _⟩
  · exact .inr (h j hj)
  · exact .inl (by omega)
theorem LeastR.not {N : Nat} {K : Rel} {lo : Int} {least : Nat} (h : LeastR N K lo least) {r : Nat} (hr : r < least) : ¬ lo ≤ (r : Int) := by
  rcases h.or with ⟨h, _⟩ | ⟨h, _⟩ <;> omega
structure SprR (L : Nat) (K : Rel) (F G : Nat → Bool) : Prop where
  snd : ∀ j, G j = true → ∃ k s, F k = true ∧ chainB K s k j = true
  cpl : ∀ k s j, F k = true → chainB K s k j = true → j ≤ L → G j = true
theorem rep_spread {L N d least : Nat} {K : Rel} {lo hi : Int} {P F E F1 F2 : Nat → Bool} (hK : FitR N K) (hP : InN N P) (hh : hi < 0) (hl : LeastR N K lo least) (hd : d = 0 ∨ d < least) (hF : FrontR L K P d F) (hE : FewR L K P d E)
    (hx : least ≤ d + 1 ∨ ∀ j, F j = false) (h1 : EndsR L K F F1) (h2 : SprR L K F1 F2) : EndsR L (repB K lo hi) P (orB E F2) := by
  have hF1 := hF.step h1
  refine ⟨fun j hj => ?_, fun i j a b c h => ?_⟩
  · rcases orB_iff.1 hj with hj | hj
    · obtain ⟨r, r1, r2, ⟨i, hi1, hi2⟩, r4⟩ := hE.snd j hj
      exact ⟨i, hi1, by have := chain_le hi2; omega, repB_iff.2 ⟨r, hi2, .inl hh, .inr r4⟩⟩
    · obtain ⟨k, s, k1, k2⟩ := h2.snd j hj
      have hr := (hF1.snd k k1).add k2
      have hjN := hr.inN hK hP
      rcases hx with hx | hx
      · have hok := hl.ok (r := d + 1 + s) (by omega) hjN
        obtain ⟨i, hi1, hi2⟩ := hr
        exact ⟨i, hi1, by have := chain_le hi2; omega, repB_iff.2 ⟨d + 1 + s, hi2, .inl hh, hok⟩⟩
      · obtain ⟨m, m1, _⟩ := h1.snd k k1
        rw [hx m] at m1
        cases m1
  · obtain ⟨r, c1, _, c3⟩ := repB_iff.1 h
    have hr0 : r ≠ 0 := fun e => by
      subst e
      rw [chain_zero] at c1
      omega
    rw [orB_iff]
    rcases Nat.lt_or_ge d r with e | e
    · obtain ⟨k, k1, k2, k3, k4⟩ := chain_cut (a := d + 1) (b := r - (d + 1)) (by rw [show d + 1 + (r - (d + 1)) = r by omega]; exact c1)
      exact .inr (h2.cpl k _ j (hF1.cpl k (by omega) ⟨i, a, k3⟩) k4 c)
    · refine .inl (hE.cpl r j (by omega) e c ⟨i, a, c1⟩ ?_)
      exact c3.resolve_left (hl.not (by omega))
structure MoreR (L N : Nat) (K : Rel) (lo hi : Int) (P : Nat → Bool) (d0 d : Nat) (F E : Nat → Bool) : Prop where
  le : d0 ≤ d
  fr : ∀ j, F j = true → Rch K P d j
  es : ∀ j, E j = true → ∃ r, 1 ≤ r ∧ r ≤ d ∧ (r : Int) ≤ hi ∧ Rch K P r j ∧ (lo ≤ (r : Int) ∨ K j j = true)
  ec : ∀ r j, 1 ≤ r → r ≤ d → j ≤ L → Rch K P r j → (lo ≤ (r : Int) ∨ K j j = true) → E j = true
  go : ∀ j, j ≤ L → j < N → Rch K P d j → F j = true ∨ ∃ r, d0 < r ∧ r < d ∧ Rch K P r j
theorem MoreR.start {L N d least : Nat} {K : Rel} {lo hi : Int} {P F E : Nat → Bool} (hl : LeastR N K lo least) (hd : d = 0 ∨ d < least) (hdh : (d : Int) ≤ hi) (hF : FrontR L K P d F) (hE : FewR L K P d E) : MoreR L N K lo hi P d d F E where
  le := Nat.le_refl _
  fr := hF.snd
  es j hj := by
    obtain ⟨r, r1, r2, r3, r4⟩ := hE.snd j hj
    exact ⟨r, r1, r2, by omega, r3, .inr r4⟩
  ec r j h1 h2 h3 h4 h5 := hE.cpl r j h1 h2 h3 h4 (h5.resolve_left (hl.not (by omega)))
  go j h1 _ h3 := .inl (hF.cpl j h1 h3)
theorem MoreR.step {L N d0 d least : Nat} {K : Rel} {lo hi : Int} {P F E G : Nat → Bool} (h : MoreR L N K lo hi P d0 d F E) (hK : FitR N K) (hP : InN N P) (hl : LeastR N K lo least) (hd0 : d0 = 0 ∨ d0 < least) (hle : least ≤ d0 + 1) (hdh : ((d + 1 : Nat) : Int) ≤ hi) (hG : EndsR L K F G) :
    MoreR L N K lo hi P d0 (d + 1) (fun j => G j && !E j) (orB E (fun j => G j && !E j)) := by
  have hd := h.le
  have key : ∀ j, j ≤ L → Rch K P (d + 1) j → G j = true ∨ ∃ r, d0 < r ∧ r < d ∧ Rch K P (r + 1) j := fun j hj hr => by
    obtain ⟨k, k1, k2, k3⟩ := hr.cut
    obtain ⟨k3, k4⟩ := chain_one.1 k3
    have hjN := hr.inN hK hP
    rcases h.go k (by omega) (by omega) k2 with a | ⟨r, a, b, c⟩
    · exact .inl (hG.cpl k j a k3 hj k4)
    · exact .inr ⟨r, a, b, c.add (chain_one.2 ⟨k3, k4⟩)⟩
  have gs : ∀ j, G j = true → Rch K P (d + 1) j := fun j hj => by
    obtain ⟨k, k1, k2, k3⟩ := hG.snd j hj
    exact (h.fr k k1).add (chain_one.2 ⟨k2, k3⟩)
  refine ⟨by omega, fun j hj => ?_, fun j hj => ?_, fun r j h1 h2 h3 h4 h5 => ?_, fun j h1 h2 h3 => ?_⟩
  · simp only [Bool.and_eq_true] at hj
    exact gs j hj.1
  · rcases orB_iff.1 hj with hj | hj
    · obtain ⟨r, a, b, c⟩ := h.es j hj
      exact ⟨r, a, by omega, c⟩
    · simp only [Bool.and_eq_true] at hj
      have hr := gs j hj.1
      exact ⟨d + 1, by omega, Nat.le_refl _, hdh, hr, hl.ok (by omega) (hr.inN hK hP)⟩
  · rw [orB_iff]
    rcases Nat.lt_or_ge d r with e | e
    · have : r = d + 1 := by omega
      subst this
      rcases key j h3 h4 with a | ⟨r, a, b, c⟩
      · cases hE : E j
        · right; simp [a]
        · exact .inl rfl
      · exact .inl (h.ec (r + 1) j (by omega) (by omega) h3 c (hl.ok (by omega) (c.inN hK hP)))
    · exact .inl (h.ec r j h1 e h3 h4 h5)
  · rcases key j h1 h3 with a | ⟨r, a, b, c⟩
    · cases hE : E j
      · left; simp [a]
      · right
        obtain ⟨r, r1, r2, r3, r4, r5⟩ := h.es j hE
        rcases Nat.lt_or_ge d0 r with e | e
        · exact ⟨r, e, by omega, r4⟩
        · exfalso
          have hK2 := r5.resolve_left (hl.not (by omega))
          have hj0 := r4.pos
          rcases hl.or with ⟨e1, _⟩ | ⟨_, e2⟩
          · omega
          · rw [e2 j (by omega) h2] at hK2
            cases hK2
    · exact .inr ⟨r + 1, by omega, by omega, c⟩
theorem MoreR.stop {L N d0 d least : Nat} {K : Rel} {lo hi : Int} {P F E : Nat → Bool} (h : MoreR L N K lo hi P d0 d F E) (hK : FitR N K) (hP : InN N P) (hl : LeastR N K lo least) (hx : hi ≤ (d : Int) ∨ (least ≤ d0 + 1 ∧ ∀ j, F j = false) ∨ (d = d0 ∧ ∀ j, F j = false)) (hh : ¬ hi < 0) :
    EndsR L (repB K lo hi) P E := by
  refine ⟨fun j hj => ?_, fun i j a b c hr => ?_⟩
  · obtain ⟨r, r1, r2, r3, ⟨i, i1, i2⟩, r5⟩ := h.es j hj
    exact ⟨i, i1, by have := chain_le i2; omega, repB_iff.2 ⟨r, i2, .inr r3, r5⟩⟩
  · obtain ⟨r, c1, c2, c3⟩ := repB_iff.1 hr
    have hr0 : r ≠ 0 := fun e => by
      subst e
      rw [chain_zero] at c1
      omega
    have hch : Rch K P r j := ⟨i, a, c1⟩
    rcases hx with hx | hx
    · exact h.ec r j (by omega) (by omega) c hch c3
    · have hF : ∀ j, F j = false := hx.elim (·.2) (·.2)
      rcases Nat.lt_or_ge d r with e | e
      · -- one more round than were made: the place ahead goes on
        have main : ∀ n r, r ≤ n → d < r → Rch K P r j → ∃ s, d0 < s ∧ s ≤ d ∧ Rch K P s j := by
          intro n
          induction n with
          | zero => intro r h1 h2; omega
          | succ n ih =>
            intro r h1 h2 h3
            obtain ⟨k, k1, k2, k3⟩ := Rch.cut (a := d) (b := r - d) (by rw [show d + (r - d) = r by omega]; exact h3)
            have hkj := chain_le k3
            have hjN := h3.inN hK hP
            rcases h.go k (by omega) (by omega) k2 with f | ⟨s, s1, s2, s3⟩
            · rw [hF k] at f
              cases f
            · have hs := s3.add k3
              rcases Nat.lt_or_ge d (s + (r - d)) with e | e
              · exact ih (s + (r - d)) (by omega) e hs
              · exact ⟨s + (r - d), by omega, e, hs⟩
        obtain ⟨s, s1, s2, s3⟩ := main r r (Nat.le_refl _) e hch
        rcases hx with ⟨hx, _⟩ | ⟨hx, _⟩
        · exact h.ec s j (by omega) s2 c s3 (hl.ok (by omega) (s3.inN hK hP))
        · omega
      · exact h.ec r j (by omega) e c hch c3
theorem rep_rep {N : Nat} {K' : Rel} {lo lo' hi hi' : Int} (hK : FitR N K') (hh' : hi' < 0) (hall : ∀ j, j ≤ N → repB K' lo' hi' j j = true) (hh : hi ≠ 0) {i j : Nat} (hiN : i ≤ N) (hij : i < j) : repB K' lo' hi' i j = true ↔ repB (repB K' lo' hi') lo hi i j = true := by
  have hf : FitR N (repB K' lo' hi') := fun i j h => by
    obtain ⟨r, h1, _⟩ := repB_iff.1 h
    exact FitR.chain hK i j h1
  constructor
  · intro h
    refine repB_iff.2 ⟨1, chain_one.2 ⟨hij, h⟩, by omega, .inr (hall j ((hf i j h).2 hiN))⟩
  · intro h
    obtain ⟨r, c1, _, _⟩ := repB_iff.1 h
    have main : ∀ r i, i ≤ N → i < j → chainB (repB K' lo' hi') r i j = true → repB K' lo' hi' i j = true := by
      intro r
      induction r with
      | zero =>
        intro i _ h1 h2
        rw [chain_zero] at h2
        omega
      | succ r ih =>
        intro i h0 h1 h2
        obtain ⟨k, k1, k2, k3, k4⟩ := chain_succ.1 h2
        rcases Nat.lt_or_ge k j with e | e
        · have hkj := ih k ((hf i k k3).2 h0) e k4
          obtain ⟨a, a1, _, _⟩ := repB_iff.1 k3
          obtain ⟨b, b1, _, b3⟩ := repB_iff.1 hkj
          refine repB_iff.2 ⟨a + b, chain_add a1 b1, .inl hh', ?_⟩
          rcases b3 with b3 | b3
          · exact .inl (by omega)
          · exact .inr b3
        · have : k = j := by omega
          subst this
          exact k3
    exact main r i hiN hij c1
open Go.RowKit
structure AllR (L : Nat) (r : Rel) (P R : Nat → Bool) : Prop where
  snd : ∀ j, R j = true → ∃ i, P i = true ∧ r i j = true
  cpl : ∀ i j, P i = true → j ≤ L → r i j = true → R j = true
theorem EndsR.all {L N : Nat} {r : Rel} {P R : Nat → Bool} (h : EndsR L r P R) (hf : FitR N r) : AllR L r P (orB R (atB r P)) := by
  refine ⟨fun j hj => ?_, fun i j a b c => ?_⟩
  · rcases orB_iff.1 hj with hj | hj
    · obtain ⟨i, a, _, c⟩ := h.snd j hj
      exact ⟨i, a, c⟩
    · obtain ⟨a, b⟩ := atB_iff.1 hj
      exact ⟨j, a, b⟩
  · rw [orB_iff]
    rcases Nat.lt_or_ge i j with e | e
    · exact .inl (h.cpl i j a e b c)
    · have := (hf i j c).1
      have : i = j := by omega
      subst this
      exact .inr (atB_iff.2 ⟨a, c⟩)
def onlyB (i j : Nat) : Bool := decide (j = i)
theorem onlyB_iff {i j : Nat} : onlyB i j = true ↔ j = i := by simp [onlyB]
theorem AllR.one {L : Nat} {r : Rel} {p : Nat} {R : Nat → Bool} (h : AllR L r (onlyB p) R) {j : Nat} (hj : j ≤ L) : R j = true ↔ r p j = true := by
  constructor
  · intro hR
    obtain ⟨i, a, b⟩ := h.snd j hR
    rw [onlyB_iff] at a
    rw [← a]
    exact b
  · exact h.cpl p j (onlyB_iff.2 rfl) hj
theorem EndsR.one {L : Nat} {r : Rel} {p : Nat} {R : Nat → Bool} (h : EndsR L r (onlyB p) R) {j : Nat} (hj : j ≤ L) : R j = true ↔ p < j ∧ r p j = true := by
  constructor
  · intro hR
    obtain ⟨i, a, b, c⟩ := h.snd j hR
    rw [onlyB_iff] at a
    rw [← a]
    exact ⟨b, c⟩
  · rintro ⟨a, b⟩
    exact h.cpl p j (onlyB_iff.2 rfl) a hj b
theorem top_is {f : Nat → Bool} : ∀ {n d : Nat}, d ≤ n → (f d = true ∨ d = 0) → (∀ e, d < e → e ≤ n → f e = false) → top f n = d
  | 0, d, h, _, _ => by rw [top]; omega
  | n + 1, d, h, h1, h2 => by
    rw [top]
    rcases Nat.lt_or_ge n d with e | e
    · have : d = n + 1 := by omega
      subst this
      rcases h1 with h1 | h1
      · rw [if_pos h1]
      · omega
    · rw [h2 (n + 1) (by omega) (Nat.le_refl _), if_neg (by simp)]
      exact top_is e h1 fun k h3 h4 => h2 k h3 (by omega)
structure FwdR (L : Nat) (rs : List Rel) (a k : Nat) (G : Nat → Bool) : Prop where
  snd : ∀ j, G j = true → rowB (rs.take k) a j = true
  cpl : ∀ j, j ≤ L → rowB (rs.take k) a j = true → G j = true
theorem FwdR.zero (L : Nat) (rs : List Rel) (a : Nat) : FwdR L rs a 0 (onlyB a) :=
  ⟨fun j h => by rw [List.take_zero, rowB_nil]; exact (onlyB_iff.1 h).symm, fun j _ h => by rw [List.take_zero, rowB_nil] at h; exact onlyB_iff.2 h.symm⟩
theorem take_next {α : Type} {l : List α} {k : Nat} {x : α} (h : l[k]? = some x) : l.take (k + 1) = l.take k ++ [x] := by
  rw [List.take_add_one, h]; rfl
theorem drop_next {α : Type} {l : List α} {k : Nat} {x : α} (h : l[k]? = some x) : l.drop k = x :: l.drop (k + 1) := by
  obtain ⟨h1, h2⟩ := List.getElem?_eq_some_iff.1 h
  rw [List.drop_eq_getElem_cons h1, h2]
theorem FwdR.step {L N : Nat} {rs : List Rel} {a k : Nat} {r : Rel} {G G' : Nat → Bool} (h : FwdR L rs a k G) (hr : rs[k]? = some r) (hf : FitR N r) (hG : AllR L r G G') : FwdR L rs a (k + 1) G' := by
  have hle : ∀ i j, r i j = true → i ≤ j := fun i j h => (hf i j h).1
  refine ⟨fun j hj => ?_, fun j hl hj => ?_⟩
  · obtain ⟨i, a1, b1⟩ := hG.snd j hj
    have h1 := h.snd i a1
    rw [take_next hr, rowB_snoc hle]
    exact ⟨i, rowB_le h1, hle _ _ b1, h1, b1⟩
  · rw [take_next hr, rowB_snoc hle] at hj
    obtain ⟨i, _, c, d, e⟩ := hj
    exact hG.cpl i j (h.cpl i (by omega) d) hl e
def GoodR (rs : List Rel) (a z k : Nat) (B : Nat → Bool) : Prop := ∀ i, B i = true ↔ rowB (rs.take k) a i = true ∧ rowB (rs.drop k) i z = true
theorem GoodR.last {rs : List Rel} {a z : Nat} (h : rowB rs a z = true) : GoodR rs a z rs.length (onlyB z) := fun i => by
  rw [onlyB_iff, List.take_length, List.drop_length, rowB_nil]
  constructor
  · intro e
    subst e
    exact ⟨h, rfl⟩
  · exact fun e => e.2
theorem GoodR.step {N : Nat} {rs : List Rel} {a z k : Nat} {r : Rel} {G B B' : Nat → Bool} (hF : FwdR z rs a k G) (hr : rs[k]? = some r) (hf : FitR N r) (h : GoodR rs a z (k + 1) B') (hB : ∀ i, B i = true ↔ G i = true ∧ ∃ e, r i e = true ∧ B' e = true) : GoodR rs a z k B := fun i => by
  have hle : ∀ i j, r i j = true → i ≤ j := fun i j h => (hf i j h).1
  rw [hB, drop_next hr, rowB_cons]
  constructor
  · rintro ⟨h1, e, h2, h3⟩
    have h4 := ((h e).1 h3).2
    exact ⟨hF.snd i h1, e, hle _ _ h2, rowB_le h4, h2, h4⟩
  · rintro ⟨h1, e, h2, h3, h4, h5⟩
    refine ⟨hF.cpl i (by omega) h1, e, h4, (h e).2 ⟨?_, h5⟩⟩
    rw [take_next hr, rowB_snoc hle]
    exact ⟨i, rowB_le h1, h2, h1, h4⟩
theorem row_top {N : Nat} {rs : List Rel} {a z k p e : Nat} {r : Rel} {B' : Nat → Bool} (hr : rs[k]? = some r) (hf : FitR N r) (h : GoodR rs a z (k + 1) B') (hp : rowB (rs.take k) a p = true) (h1 : r p e = true) (h2 : B' e = true) (hg : ∀ j, e < j → r p j = true → B' j = false) :
    p + top (fun d => r p (p + d) && rowB (rs.drop (k + 1)) (p + d) z) (z - p) = e ∧ rowB (rs.take (k + 1)) a e = true ∧ rowB (rs.drop (k + 1)) e z = true := by
  have hle : ∀ i j, r i j = true → i ≤ j := fun i j h => (hf i j h).1
  have hpe := hle _ _ h1
  obtain ⟨h3, h4⟩ := (h e).1 h2
  have hez := rowB_le h4
  refine ⟨?_, h3, h4⟩
  rw [top_is (d := e - p) (by omega) (.inl (by rw [show p + (e - p) = e by omega, h1, h4]; rfl)) fun d hd hdz => ?_]
  · omega
  · cases hc : r p (p + d) with
    | false => rfl
    | true =>
      cases hc2 : rowB (rs.drop (k + 1)) (p + d) z with
      | false => rfl
      | true =>
        have := hg (p + d) (by omega) hc
        rw [(h (p + d)).2 ⟨by rw [take_next hr, rowB_snoc hle]; exact ⟨p, rowB_le hp, Nat.le_add_right _ _, hp, hc⟩, hc2⟩] at this
        cases this
theorem row_ex {N : Nat} {rs : List Rel} {a z k p : Nat} {r : Rel} {B' : Nat → Bool} (hr : rs[k]? = some r) (hf : FitR N r) (h : GoodR rs a z (k + 1) B') (hp : rowB (rs.take k) a p = true) (hd : rowB (rs.drop k) p z = true) : ∃ e, r p e = true ∧ B' e = true := by
  have hle : ∀ i j, r i j = true → i ≤ j := fun i j h => (hf i j h).1
  rw [drop_next hr, rowB_cons] at hd
  obtain ⟨e, h1, _, h3, h4⟩ := hd
  exact ⟨e, h3, (h e).2 ⟨by rw [take_next hr, rowB_snoc hle]; exact ⟨p, rowB_le hp, h1, hp, h3⟩, h4⟩⟩
theorem rowE_next {rs : List Rel} {es : List EvF} {k p e z : Nat} {r : Rel} {f : EvF} (hr : rs[k]? = some r) (he : es[k]? = some f) (ht : p + top (fun d => r p (p + d) && rowB (rs.drop (k + 1)) (p + d) z) (z - p) = e) :
    rowE (rs.drop k) (es.drop k) p z = f p e ++ rowE (rs.drop (k + 1)) (es.drop (k + 1)) e z := by
  rw [drop_next hr, drop_next he]
  simp only [rowE, ht]
def Want (K : Rel) (lo hi : Int) (z r e : Nat) : Prop := ∃ s, chainB K s e z = true ∧ (hi < 0 ∨ ((r + s : Nat) : Int) ≤ hi) ∧ (lo ≤ ((r + s : Nat) : Int) ∨ K z z = true)
def RGood (K : Rel) (lo hi : Int) (a z r : Nat) (B : Nat → Bool) : Prop := (∀ e, B e = true → e ≤ z) ∧ ∀ e, chainB K r a e = true → (B e = true ↔ Want K lo hi z r e)
def LeadR (K : Rel) (lo : Int) (z r : Nat) (G B B' : Nat → Bool) : Prop := ∀ e, B e = true ↔ G e = true ∧ ((e = z ∧ (lo ≤ (r : Int) ∨ K z z = true)) ∨ (e < z ∧ ∃ e', e < e' ∧ K e e' = true ∧ B' e' = true))
theorem lead_self {N a z last least : Nat} {K : Rel} {lo hi : Int} {G B : Nat → Bool} (hl : LeastR N K lo least) (hzN : z ≤ N) (hla : last = min least (z - a)) (hh : hi < 0)
    (hG : ∀ e, e ≤ z → (G e = true ↔ ∃ t, last ≤ t ∧ chainB K t a e = true)) (hB : LeadR K lo z last G B B) (r : Nat) (hr : last ≤ r) : RGood K lo hi a z r B := by
  have hz : ∀ e, B e = true → e ≤ z := fun e he => by
    rcases ((hB e).1 he).2 with h | h <;> omega
  have fwd : ∀ n e, z - e ≤ n → B e = true → (lo ≤ (last : Int) ∨ K z z = true) ∧ ∃ s, chainB K s e z = true := by
    intro n
    induction n with
    | zero =>
      intro e h1 h2
      rcases ((hB e).1 h2).2 with ⟨h, h3⟩ | ⟨h, _⟩
      · exact ⟨h3, 0, chain_zero.2 h⟩
      · omega
    | succ n ih =>
      intro e h1 h2
      rcases ((hB e).1 h2).2 with ⟨h, h3⟩ | ⟨h, e', h3, h4, h5⟩
      · exact ⟨h3, 0, chain_zero.2 h⟩
      · obtain ⟨h6, s, h7⟩ := ih e' (by omega) h5
        exact ⟨h6, s + 1, chain_succ.2 ⟨e', h3, hz e' h5, h4, h7⟩⟩
  have bwd : ∀ s e, (lo ≤ (last : Int) ∨ K z z = true) → chainB K s e z = true → G e = true → B e = true := by
    intro s
    induction s with
    | zero =>
      intro e h1 h2 h3
      exact (hB e).2 ⟨h3, .inl ⟨chain_zero.1 h2, h1⟩⟩
    | succ s ih =>
      intro e h1 h2 h3
      obtain ⟨k, k1, k2, k3, k4⟩ := chain_succ.1 h2
      refine (hB e).2 ⟨h3, .inr ⟨by omega, k, k1, k3, ih k h1 k4 ?_⟩⟩
      obtain ⟨t, t1, t2⟩ := (hG e (by omega)).1 h3
      exact (hG k k2).2 ⟨t + 1, by omega, chain_add t2 (chain_one.2 ⟨k1, k3⟩)⟩
  refine ⟨hz, fun e he => ⟨fun h => ?_, fun h => ?_⟩⟩
  · obtain ⟨h1, s, h2⟩ := fwd (z - e) e (Nat.le_refl _) h
    exact ⟨s, h2, .inl hh, h1.imp_left fun h => by omega⟩
  · obtain ⟨s, h1, _, h3⟩ := h
    have hez := chain_le h1
    have hae := chain_le he
    refine bwd s e ?_ h1 ((hG e (by omega)).2 ⟨r, hr, he⟩)
    rcases Nat.lt_or_ge last least with e1 | e1
    · -- the text is too short for so many rounds
      rcases h3 with h3 | h3
      · exact .inl (by omega)
      · exact .inr h3
    · exact hl.ok e1 hzN
theorem lead_last {a z last : Nat} {K : Rel} {lo hi : Int} {G B : Nat → Bool} (hla : (last : Int) = min hi ((z - a : Nat) : Int)) (hh : ¬ hi < 0)
    (hG : ∀ e, e ≤ z → chainB K last a e = true → G e = true) (hB : LeadR K lo z last G B noneB) : RGood K lo hi a z last B := by
  refine ⟨fun e he => ?_, fun e he => ⟨fun h => ?_, fun h => ?_⟩⟩
  · rcases ((hB e).1 he).2 with h | h <;> omega
  · rcases ((hB e).1 h).2 with ⟨h1, h2⟩ | ⟨_, e', _, _, h2⟩
    · exact ⟨0, chain_zero.2 h1, .inr (by omega), by simpa using h2⟩
    · cases h2
  · obtain ⟨s, h1, h2, h3⟩ := h
    have hez := chain_le h1
    have hae := chain_le he
    have h0 : s = 0 ∧ e = z := by
      rcases h2 with h2 | h2
      · exact absurd h2 hh
      · rcases Nat.eq_zero_or_pos s with h0 | h0
        · subst h0
          exact ⟨rfl, chain_zero.1 h1⟩
        · omega
    obtain ⟨rfl, rfl⟩ := h0
    exact (hB e).2 ⟨hG e (Nat.le_refl _) he, .inl ⟨rfl, by simpa using h3⟩⟩
theorem lead_step {a z r : Nat} {K : Rel} {lo hi : Int} {G B B' : Nat → Bool} (hh : hi < 0 ∨ (r : Int) ≤ hi) (hG : ∀ e, e ≤ z → (G e = true ↔ chainB K r a e = true)) (hB : LeadR K lo z r G B B') (h : RGood K lo hi a z (r + 1) B') : RGood K lo hi a z r B := by
  refine ⟨fun e he => ?_, fun e he => ⟨fun hb => ?_, fun hw => ?_⟩⟩
  · rcases ((hB e).1 he).2 with h | h <;> omega
  · rcases ((hB e).1 hb).2 with ⟨h1, h2⟩ | ⟨_, e', h3, h4, h5⟩
    · exact ⟨0, chain_zero.2 h1, by simpa using hh, by simpa using h2⟩
    · obtain ⟨s, s1, s2, s3⟩ := (h.2 e' (chain_add he (chain_one.2 ⟨h3, h4⟩))).1 h5
      refine ⟨s + 1, chain_succ.2 ⟨e', h3, h.1 e' h5, h4, s1⟩, ?_, ?_⟩
      · rw [show r + (s + 1) = r + 1 + s by omega]; exact s2
      · rw [show r + (s + 1) = r + 1 + s by omega]; exact s3
  · obtain ⟨s, s1, s2, s3⟩ := hw
    have hez := chain_le s1
    refine (hB e).2 ⟨(hG e (by omega)).2 he, ?_⟩
    cases s with
    | zero => exact .inl ⟨chain_zero.1 s1, by simpa using s3⟩
    | succ s =>
      obtain ⟨k, k1, k2, k3, k4⟩ := chain_succ.1 s1
      refine .inr ⟨by omega, k, k1, k3, (h.2 k (chain_add he (chain_one.2 ⟨k1, k3⟩))).2 ⟨s, k4, ?_, ?_⟩⟩
      · rw [show r + 1 + s = r + (s + 1) by omega]; exact s2
      · rw [show r + 1 + s = r + (s + 1) by omega]; exact s3
def hiAt (hi : Int) (r : Nat) : Int := if hi < 0 then hi else hi - r
theorem want_rep {K : Rel} {lo hi : Int} {z r e : Nat} (hh : hi < 0 ∨ (r : Int) ≤ hi) : Want K lo hi z r e ↔ repB K (lo - r) (hiAt hi r) e z = true := by
  rw [repB_iff]
  unfold Want hiAt
  constructor
  · rintro ⟨s, h1, h2, h3⟩
    refine ⟨s, h1, ?_, h3.imp_left fun h => by omega⟩
    split <;> omega
  · rintro ⟨s, h1, h2, h3⟩
    refine ⟨s, h1, ?_, h3.imp_left fun h => by omega⟩
    split at h2 <;> omega
theorem decH_at {hi : Int} {r : Nat} (hh : hi < 0 ∨ ((r + 1 : Nat) : Int) ≤ hi) : decH (hiAt hi r) = hiAt hi (r + 1) := by
  unfold decH hiAt
  by_cases h : hi < 0
  · simp [h]
  · rw [if_neg h, if_neg h, if_neg (by omega)]
    omega
theorem Want.more {K : Rel} {lo hi : Int} {z r e : Nat} (h : Want K lo hi z r e) (he : e < z) : hi < 0 ∨ ((r + 1 : Nat) : Int) ≤ hi := by
  obtain ⟨s, h1, h2, _⟩ := h
  cases s with
  | zero => rw [chain_zero] at h1; omega
  | succ s => omega
theorem rep_ex {K : Rel} {lo hi : Int} {a z r p : Nat} {B : Nat → Bool} (h : RGood K lo hi a z (r + 1) B) (hp : chainB K r a p = true) (hw : Want K lo hi z r p) (hpz : p < z) : ∃ e, p < e ∧ K p e = true ∧ B e = true := by
  obtain ⟨s, s1, s2, s3⟩ := hw
  cases s with
  | zero => rw [chain_zero] at s1; omega
  | succ s =>
    obtain ⟨k, k1, k2, k3, k4⟩ := chain_succ.1 s1
    refine ⟨k, k1, k3, (h.2 k (chain_add hp (chain_one.2 ⟨k1, k3⟩))).2 ⟨s, k4, ?_, ?_⟩⟩
    · rw [show r + 1 + s = r + (s + 1) by omega]; exact s2
    · rw [show r + 1 + s = r + (s + 1) by omega]; exact s3
theorem rep_top {K : Rel} {lo hi : Int} {a z r p e : Nat} {B : Nat → Bool} (h : RGood K lo hi a z (r + 1) B) (hp : chainB K r a p = true) (hw : Want K lo hi z r p) (hpz : p < z) (h0 : p < e) (h1 : K p e = true) (h2 : B e = true) (hg : ∀ j, e < j → K p j = true → B j = false) :
    p + top (fun d => decide (0 < d) && K p (p + d) && repB K (lo - r - 1) (decH (hiAt hi r)) (p + d) z) (z - p) = e ∧ chainB K (r + 1) a e = true ∧ Want K lo hi z (r + 1) e := by
  have hc := chain_add hp (chain_one.2 ⟨h0, h1⟩)
  have hwe := (h.2 e hc).1 h2
  have hm := hw.more hpz
  refine ⟨?_, hc, hwe⟩
  have hez := h.1 e h2
  rw [decH_at hm, show lo - (r : Int) - 1 = lo - ((r + 1 : Nat) : Int) by omega]
  rw [top_is (d := e - p) (by omega) (.inl ?_) fun d hd hdz => ?_]
  · omega
  · rw [show p + (e - p) = e by omega, h1, (want_rep hm).1 hwe, decide_eq_true (show 0 < e - p by omega)]
    rfl
  · cases hc1 : K p (p + d) with
    | false => simp
    | true =>
      cases hc2 : repB K (lo - ((r + 1 : Nat) : Int)) (hiAt hi (r + 1)) (p + d) z with
      | false => simp
      | true =>
        have := hg (p + d) (by omega) hc1
        rw [(h.2 (p + d) (chain_add hp (chain_one.2 ⟨by omega, hc1⟩))).2 ((want_rep hm).2 hc2)] at this
        cases this
theorem repE_end {K : Rel} {e : EvF} {n : Nat} {lo hi : Int} {z : Nat} : repE K e n lo hi z z = if 0 < lo then e z z else [] := by
  cases n with
  | zero => rw [repE]
  | succ n => rw [repE, if_pos rfl]
theorem rep_next {K : Rel} {ev : EvF} {lo hi : Int} {z r p e n : Nat} (hm : hi < 0 ∨ ((r + 1 : Nat) : Int) ≤ hi) (hpz : p < z) (hn : z - p ≤ n + 1)
    (ht : p + top (fun d => decide (0 < d) && K p (p + d) && repB K (lo - r - 1) (decH (hiAt hi r)) (p + d) z) (z - p) = e) (hpe : p < e) :
    repE K ev (n + 1) (lo - r) (hiAt hi r) p z = ev p e ++ repE K ev n (lo - ((r + 1 : Nat) : Int)) (hiAt hi (r + 1)) e z ∧ z - e ≤ n := by
  rw [repE, if_neg (by omega)]
  simp only [ht]
  rw [decH_at hm, show lo - (r : Int) - 1 = lo - ((r + 1 : Nat) : Int) by omega]
  exact ⟨rfl, by omega⟩
end Go.Proofs.Ytncbmdbfdjhkeaa

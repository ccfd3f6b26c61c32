/-
  Patterns as data: trees, tokens, what a pattern's text is cut into, and what tree is made of it. No condition.
-/
import Derived.Test.YtbehbbmhkkidfaaCset
import Derived.Test.YtbehbbmhkkidfaaCpre
import Derived.Lib.IndexMore
namespace Go.Proofs.Ytbehbbmhkkidfaa
open Go.RowKit

/-- A pattern's tree. -/
inductive PN where
  | mk (kind : Int) (set : Nat → Nat) (lo hi num : Int) (kids : List PN)
def PN.kids : PN → List PN
  | .mk _ _ _ _ _ ks => ks
def PN.kind : PN → Int
  | .mk k _ _ _ _ _ => k
def PN.zero : PN := .mk 0 noS 0 0 0 []
/-- A token. -/
structure Tok where
  kind : Int
  set : Nat → Nat
  lo : Int
  hi : Int
def Tok.none : Tok := ⟨0, noS, 0, 0⟩
def Tok.of (k : Int) : Tok := ⟨k, noS, 0, 0⟩
def oneT (c : Nat) : Tok := ⟨1, withS noS c c, 0, 0⟩
def anyT : Tok := ⟨1, notS noS, 0, 0⟩
def repT (a b : Int) : Tok := ⟨7, noS, a, b⟩
def Tok.v (t : Tok) : Value := .agg #[.int .i64 t.kind, .int .u64 (t.set 0), .int .u64 (t.set 1), .int .u64 (t.set 2), .int .u64 (t.set 3), .int .i64 t.lo, .int .i64 t.hi]

def escB : List UInt8 := [46, 91, 93, 92, 42, 94, 36, 47]
def escE : List UInt8 := [46, 91, 93, 92, 42, 94, 36, 47, 40, 41, 124, 43, 63, 123, 125]
/-- The token of a backslash and what is behind it. -/
def escT (them : List UInt8) : List UInt8 → Tok × Nat
  | [] => (Tok.none, 0)
  | d :: _ => if d = 110 then (oneT 10, 2) else if Lib.indexByte them d < 0 then (Tok.none, 0) else (oneT d.toNat, 2)
/-- The answer of Bracket, and the token of it. -/
abbrev BkF := List UInt8 → Option ((Nat → Nat) × Nat)
def brkT (bk : BkF) (r : List UInt8) : Tok × Nat := match bk r with
  | none => (Tok.none, 0)
  | some (S, n) => (⟨1, S, 0, 0⟩, 1 + n)
/-- A number of figures. -/
def figs : List UInt8 → Nat → Option Nat
  | [], n => some n
  | c :: r, n => if c < 48 ∨ 57 < c then none else figs r (10 * n + (c.toNat - 48))
def numP (l : List UInt8) : Nat × Bool := if l = [] ∨ 3 < l.length then (0, false) else match figs l 0 with
  | none => (0, false)
  | some n => (n, decide (n ≤ 20))
/-- An interval, behind its opening of m bytes, up to its closing. -/
def intT (m : Nat) (close : List UInt8) (r : List UInt8) : Tok × Nat :=
  let a := Lib.cut r close
  let b := Lib.cut a.1 [44]
  let lo := numP b.1
  let hi := numP b.2.1
  if a.2.2 = false ∨ lo.2 = false then (Tok.none, 0)
  else if b.2.2 = false then (repT lo.1 lo.1, m + a.1.length + close.length)
  else if b.2.1 = [] then (repT lo.1 (-1), m + a.1.length + close.length)
  else if hi.2 = false ∨ hi.1 < lo.1 then (Tok.none, 0)
  else (repT lo.1 hi.1, m + a.1.length + close.length)
/-- The token that an extended pattern begins with. -/
def extT (bk : BkF) : List UInt8 → Tok × Nat
  | [] => (Tok.none, 0)
  | c :: r =>
    if c = 46 then (anyT, 1) else if c = 91 then brkT bk r else if c = 92 then escT escE r
    else if c = 94 then (Tok.of 2, 1) else if c = 36 then (Tok.of 3, 1) else if c = 40 then (Tok.of 4, 1) else if c = 41 then (Tok.of 5, 1)
    else if c = 124 then (Tok.of 6, 1) else if c = 42 then (repT 0 (-1), 1) else if c = 43 then (repT 1 (-1), 1) else if c = 63 then (repT 0 1, 1)
    else if c = 123 then intT 1 [125] r else (oneT c.toNat, 1)
def basEsc (r : List UInt8) : Tok × Nat :=
  if [40].isPrefixOf r = true then (Tok.of 4, 2) else if [41].isPrefixOf r = true then (Tok.of 5, 2)
  else if [123].isPrefixOf r = true then intT 2 [92, 125] (r.drop 1) else escT escB r
def basT (bk : BkF) (ahead : Int) : List UInt8 → Tok × Nat
  | [] => (Tok.none, 0)
  | c :: r =>
    if c = 46 then (anyT, 1) else if c = 91 then brkT bk r else if c = 92 then basEsc r
    else if c = 94 ∧ ahead = 4 then (Tok.of 2, 1)
    else if c = 36 ∧ (r = [] ∨ [92, 41].isPrefixOf r = true) then (Tok.of 3, 1)
    else if c = 42 ∧ ahead ≠ 4 ∧ ahead ≠ 2 then (repT 0 (-1), 1)
    else (oneT c.toNat, 1)
def firstT (bk : BkF) (ext : Bool) (ahead : Int) (l : List UInt8) : Tok × Nat := if ext = true then extT bk l else basT bk ahead l
/-- The tokens of a text, if all of it is tokens. -/
def toksF (bk : BkF) (ext : Bool) : Nat → Int → List UInt8 → Option (List Tok)
  | _, _, [] => some []
  | 0, _, _ :: _ => none
  | n + 1, ahead, c :: r =>
    let t := firstT bk ext ahead (c :: r)
    if t.1.kind = 0 then none else (toksF bk ext n t.1.kind ((c :: r).drop t.2)).map (t.1 :: ·)

/-! ### The tree of tokens -/
def headK : List Tok → Int
  | [] => 0
  | t :: _ => t.kind
def joinK (k : Int) : List PN → PN
  | [x] => x
  | l => .mk k noS 0 0 0 l
def repP (n : PN) : List Tok → PN × List Tok
  | [] => (n, [])
  | t :: r => if t.kind = 7 then (.mk 4 noS t.lo t.hi 0 [n], r) else (n, t :: r)
mutual
/-- Rows, and bars between them; a row; a piece. What comes back: the tree, the tokens left, how many groups opened. -/
def altP : Nat → List PN → List Tok → Nat → Option (PN × List Tok × Nat)
  | 0, _, _, _ => none
  | f + 1, acc, l, g => match rowP f [] l g with
    | none => none
    | some (n, l1, g1) => if headK l1 = 6 then altP f (acc ++ [n]) (l1.drop 1) g1 else some (joinK 3 (acc ++ [n]), l1, g1)
def rowP : Nat → List PN → List Tok → Nat → Option (PN × List Tok × Nat)
  | 0, _, _, _ => none
  | f + 1, acc, l, g => match pieceP f l g with
    | none => none
    | some (n, l1, g1) => if headK l1 ≠ 0 ∧ headK l1 ≠ 6 ∧ headK l1 ≠ 5 then rowP f (acc ++ [n]) l1 g1 else some (joinK 2 (acc ++ [n]), l1, g1)
def pieceP : Nat → List Tok → Nat → Option (PN × List Tok × Nat)
  | 0, _, _ => none
  | _ + 1, [], _ => none
  | f + 1, t :: r, g =>
    if t.kind = 2 then some (.mk 6 noS 0 0 0 [], r, g) else if t.kind = 3 then some (.mk 7 noS 0 0 0 [], r, g)
    else if t.kind = 1 then some ((repP (.mk 1 t.set 0 0 0 []) r).1, (repP (.mk 1 t.set 0 0 0 []) r).2, g)
    else if t.kind = 4 then match groupP f r g with
      | none => none
      | some (n, l1, g1) => some ((repP n l1).1, (repP n l1).2, g1)
    else none
def groupP : Nat → List Tok → Nat → Option (PN × List Tok × Nat)
  | 0, _, _ => none
  | f + 1, r, g => match altP f [] r (g + 1) with
    | none => none
    | some (n, l1, g1) => if 9 < g + 1 ∨ headK l1 ≠ 5 then none else some (.mk 5 noS 0 0 ((g + 1 : Nat) : Int) [n], l1.drop 1, g1)
end
/-- What Parse answers. -/
def parseP (bk : BkF) (ext : Bool) (l : List UInt8) : Option PN :=
  if 200 < l.length then none else match toksF bk ext 200 4 l with
  | none => none
  | some ts => match altP 1001 [] ts 0 with
    | some (n, r, _) => if headK r = 0 then some n else none
    | none => none

/-! ### How many tokens are left, and how many groups there are -/
theorem repP_le (n : PN) (l : List Tok) : (repP n l).2.length ≤ l.length := by
  cases l with
  | nil => exact Nat.le_refl _
  | cons t r =>
    simp only [repP]
    split <;> simp
/-- Fewer tokens, and at most as many groups more. -/
def Less (l : List Tok) (g : Nat) (x : Option (PN × List Tok × Nat)) : Prop := ∀ n l1 g1, x = some (n, l1, g1) → l1.length < l.length ∧ g1 + l1.length ≤ g + l.length
theorem parse_less : ∀ f : Nat, (∀ acc l g, Less l g (altP f acc l g)) ∧ (∀ acc l g, Less l g (rowP f acc l g)) ∧ (∀ l g, Less l g (pieceP f l g)) ∧ (∀ l g n l1 g1, groupP f l g = some (n, l1, g1) → l1.length < l.length ∧ g1 + l1.length ≤ g + 1 + l.length)
  | 0 => ⟨fun acc l g n l1 g1 h => by simp [altP] at h, fun acc l g n l1 g1 h => by simp [rowP] at h, fun l g n l1 g1 h => by simp [pieceP] at h, fun l g n l1 g1 h => by simp [groupP] at h⟩
  | f + 1 => by
    obtain ⟨ia, ir, ip, ig⟩ := parse_less f
    refine ⟨fun acc l g n l1 g1 h => ?_, fun acc l g n l1 g1 h => ?_, fun l g n l1 g1 h => ?_, fun l g n l1 g1 h => ?_⟩
    · simp only [altP] at h
      cases hr : rowP f [] l g with
      | none => rw [hr] at h; cases h
      | some x =>
        obtain ⟨m, l2, g2⟩ := x
        rw [hr] at h
        have h2 := ir _ _ _ _ _ _ hr
        simp only at h
        split at h
        · have h3 := ia _ _ _ _ _ _ h
          simp only [List.length_drop] at h3
          omega
        · cases h
          exact h2
    · simp only [rowP] at h
      cases hr : pieceP f l g with
      | none => rw [hr] at h; cases h
      | some x =>
        obtain ⟨m, l2, g2⟩ := x
        rw [hr] at h
        have h2 := ip _ _ _ _ _ hr
        simp only at h
        split at h
        · have h3 := ir _ _ _ _ _ _ h
          omega
        · cases h
          exact h2
    · cases l with
      | nil => simp [pieceP] at h
      | cons t r =>
        simp only [pieceP] at h
        split at h
        · cases h; simp only [List.length_cons]; omega
        · split at h
          · cases h; simp only [List.length_cons]; omega
          · split at h
            · cases h
              have := repP_le (.mk 1 t.set 0 0 0 []) r
              simp only [List.length_cons]; omega
            · split at h
              · cases hr : groupP f r g with
                | none => rw [hr] at h; cases h
                | some x =>
                  obtain ⟨m, l2, g2⟩ := x
                  rw [hr] at h
                  have h2 := ig _ _ _ _ _ hr
                  cases h
                  have := repP_le m l2
                  simp only [List.length_cons]; omega
              · cases h
    · simp only [groupP] at h
      cases hr : altP f [] l (g + 1) with
      | none => rw [hr] at h; cases h
      | some x =>
        obtain ⟨m, l2, g2⟩ := x
        rw [hr] at h
        have h2 := ia _ _ _ _ _ _ hr
        simp only at h
        split at h
        · cases h
        · cases h
          simp only [List.length_drop]
          omega
end Go.Proofs.Ytbehbbmhkkidfaa

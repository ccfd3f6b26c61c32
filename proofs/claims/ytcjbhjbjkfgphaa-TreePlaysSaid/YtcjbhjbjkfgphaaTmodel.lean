/-
  Files by their paths, as plain lists: put one in, strike one out, where one stands; what the document's answer makes of a list that rises. No condition.
-/
import Derived.Test.YtcjbhjbjkfgphaaRows
import Derived.WalkKit
import Derived.ProofKit
namespace Go.Proofs.Ytcjbhjbjkfgphaa
open Go.RowKit

/-- A file: its path, its version, its text. -/
structure FileM where
  path : ByteArray
  ver : Int
  text : ByteArray
/-- Which of two paths comes first. -/
def pless (a b : ByteArray) : Bool := Op.bytesLess a.toList b.toList
theorem toList_inj {a b : ByteArray} (h : a.toList = b.toList) : a = b := by
  rw [ByteArray.toList_eq, ByteArray.toList_eq] at h
  cases a; cases b
  simp at h
  rw [h]
theorem peq {a b : ByteArray} : (a.toList == b.toList) = decide (a = b) := by
  by_cases h : a = b
  · subst h; simp
  · have : a.toList ≠ b.toList := fun e => h (toList_inj e)
    simp [h, this]
theorem bless_irrefl : ∀ x : List UInt8, Op.bytesLess x x = false
  | [] => rfl
  | a :: x => by simp [Op.bytesLess, bless_irrefl x]
theorem bless_cons (a b : UInt8) (x y : List UInt8) : Op.bytesLess (a :: x) (b :: y) = true ↔ a < b ∨ (a = b ∧ Op.bytesLess x y = true) := by simp [Op.bytesLess]
theorem bless_trans : ∀ x y z : List UInt8, Op.bytesLess x y = true → Op.bytesLess y z = true → Op.bytesLess x z = true
  | _, [], z, h, _ => by cases ‹List UInt8› <;> simp [Op.bytesLess] at h
  | _, b :: y, [], _, k => by simp [Op.bytesLess] at k
  | [], b :: y, c :: z, _, _ => by simp [Op.bytesLess]
  | a :: x, b :: y, c :: z, h, k => by
    rw [bless_cons] at h k ⊢
    rcases h with h | ⟨rfl, h⟩
    · rcases k with k | ⟨rfl, _⟩
      · exact .inl (UInt8.lt_trans h k)
      · exact .inl h
    · rcases k with k | ⟨rfl, k⟩
      · exact .inl k
      · exact .inr ⟨rfl, bless_trans x y z h k⟩
theorem bless_tri : ∀ (x y : List UInt8), Op.bytesLess x y = false → x ≠ y → Op.bytesLess y x = true
  | [], [], _, h => absurd rfl h
  | [], b :: y, h, _ => by simp [Op.bytesLess] at h
  | a :: x, [], _, _ => by simp [Op.bytesLess]
  | a :: x, b :: y, h, hne => by
    have hn : ¬ (a < b ∨ (a = b ∧ Op.bytesLess x y = true)) := by
      rw [← bless_cons, h]
      simp
    rw [bless_cons]
    by_cases he : b = a
    · subst he
      refine .inr ⟨rfl, bless_tri x y ?_ (fun e => hne (by rw [e]))⟩
      cases hb : Op.bytesLess x y
      · rfl
      · exact absurd (.inr ⟨rfl, hb⟩) hn
    · refine .inl ?_
      rcases Nat.lt_trichotomy a.toNat b.toNat with h1 | h1 | h1
      · exact absurd (.inl (UInt8.lt_iff_toNat_lt.2 h1)) hn
      · exact absurd (UInt8.toNat_inj.1 h1).symm he
      · exact UInt8.lt_iff_toNat_lt.2 h1
theorem pless_irrefl (a : ByteArray) : pless a a = false := bless_irrefl _
theorem pless_trans {a b c : ByteArray} (h : pless a b = true) (k : pless b c = true) : pless a c = true := bless_trans _ _ _ h k
theorem pless_tri {a b : ByteArray} (h : pless a b = false) (hne : a ≠ b) : pless b a = true := bless_tri _ _ h (fun e => hne (toList_inj e))
theorem pless_ne {a b : ByteArray} (h : pless a b = true) : a ≠ b := fun e => by
  subst e
  rw [pless_irrefl] at h
  cases h
theorem pless_asymm {a b : ByteArray} (h : pless a b = true) : pless b a = false := by
  cases hb : pless b a
  · rfl
  · have := pless_trans h hb
    rw [pless_irrefl] at this
    cases this

/-- Files stand by rising paths. -/
def Rising : List FileM → Prop
  | [] => True
  | f :: r => (∀ g ∈ r, pless f.path g.path = true) ∧ Rising r
/-- Put a file in, for the one of its path, if there is one. -/
def putF : List FileM → FileM → List FileM
  | [], f => [f]
  | g :: r, f => if pless f.path g.path then f :: g :: r else if f.path = g.path then f :: r else g :: putF r f
/-- Strike the file of a path out. -/
def dropF (fs : List FileM) (p : ByteArray) : List FileM := fs.filter fun f => decide (f.path ≠ p)
/-- Where a path stands. -/
def findF : List FileM → ByteArray → Option Nat
  | [], _ => none
  | f :: r, p => if f.path = p then some 0 else (findF r p).map (· + 1)
theorem findF_some : ∀ {fs : List FileM} {p : ByteArray} {i : Nat}, findF fs p = some i → ∃ f, fs[i]? = some f ∧ f.path = p
  | [], p, i, h => by cases h
  | f :: r, p, i, h => by
    unfold findF at h
    split at h
    · rename_i hp
      injection h with h
      subst h
      exact ⟨f, rfl, hp⟩
    · cases hr : findF r p with
      | none => rw [hr] at h; cases h
      | some j =>
        rw [hr] at h
        simp only [Option.map_some, Option.some.injEq] at h
        subst h
        obtain ⟨g, h1, h2⟩ := findF_some hr
        exact ⟨g, by simpa using h1, h2⟩
theorem findF_none : ∀ {fs : List FileM} {p : ByteArray}, findF fs p = none ↔ ∀ f ∈ fs, f.path ≠ p
  | [], p => by simp [findF]
  | f :: r, p => by
    unfold findF
    by_cases hp : f.path = p
    · rw [if_pos hp]
      simp [hp]
    · rw [if_neg hp]
      have ih := findF_none (fs := r) (p := p)
      cases hr : findF r p with
      | none =>
        simp only [Option.map_none, List.mem_cons, forall_eq_or_imp, true_iff]
        exact ⟨hp, ih.1 hr⟩
      | some j =>
        simp only [Option.map_some, reduceCtorEq, List.mem_cons, forall_eq_or_imp, false_iff, not_and]
        intro _ hall
        rw [ih.2 hall] at hr
        cases hr
theorem dropF_none {fs : List FileM} {p : ByteArray} (h : findF fs p = none) : dropF fs p = fs := by
  unfold dropF
  rw [List.filter_eq_self]
  intro f hf
  simpa using findF_none.1 h f hf
theorem rising_sub : ∀ {fs : List FileM} (q : FileM → Bool), Rising fs → Rising (fs.filter q)
  | [], _, _ => trivial
  | f :: r, q, ⟨h1, h2⟩ => by
    have ih := rising_sub q h2
    by_cases hq : q f = true
    · rw [List.filter_cons_of_pos hq]
      exact ⟨fun g hg => h1 g (List.mem_filter.1 hg).1, ih⟩
    · rw [List.filter_cons_of_neg hq]
      exact ih
theorem mem_putF : ∀ {fs : List FileM} {f g : FileM}, g ∈ putF fs f → g = f ∨ g ∈ fs
  | [], f, g, h => by simpa [putF] using h
  | a :: r, f, g, h => by
    unfold putF at h
    split at h
    · rcases List.mem_cons.1 h with h | h
      · exact .inl h
      · exact .inr h
    · split at h
      · rcases List.mem_cons.1 h with h | h
        · exact .inl h
        · exact .inr (List.mem_cons_of_mem _ h)
      · rcases List.mem_cons.1 h with h | h
        · exact .inr (by rw [h]; exact List.mem_cons_self)
        · rcases mem_putF h with h | h
          · exact .inl h
          · exact .inr (List.mem_cons_of_mem _ h)
theorem rising_put : ∀ {fs : List FileM} (f : FileM), Rising fs → Rising (putF fs f)
  | [], f, _ => ⟨fun g hg => (by cases hg), trivial⟩
  | a :: r, f, ⟨h1, h2⟩ => by
    unfold putF
    by_cases hl : pless f.path a.path = true
    · rw [if_pos hl]
      exact ⟨fun g hg => by
        rcases List.mem_cons.1 hg with hg | hg
        · rw [hg]; exact hl
        · exact pless_trans hl (h1 g hg), h1, h2⟩
    · rw [if_neg hl]
      by_cases he : f.path = a.path
      · rw [if_pos he]
        exact ⟨fun g hg => by rw [he]; exact h1 g hg, h2⟩
      · rw [if_neg he]
        refine ⟨fun g hg => ?_, rising_put f h2⟩
        rcases mem_putF hg with hg | hg
        · rw [hg]; exact pless_tri (by simpa using hl) he
        · exact h1 g hg
/-- Where the document's answer comes to: behind all that come first, ahead of all that come behind. -/
theorem putF_mid : ∀ {a b : List FileM} {f : FileM}, (∀ g ∈ a, pless g.path f.path = true) → (∀ g ∈ b, pless f.path g.path = true) → putF (a ++ b) f = a ++ f :: b
  | [], [], f, _, _ => rfl
  | [], g :: r, f, _, hb => by
    show putF (g :: r) f = f :: g :: r
    unfold putF
    rw [if_pos (hb g List.mem_cons_self)]
  | g :: r, b, f, ha, hb => by
    have hg := ha g List.mem_cons_self
    show putF (g :: (r ++ b)) f = g :: (r ++ f :: b)
    unfold putF
    rw [if_neg (by rw [pless_asymm hg]; simp), if_neg (fun e => pless_ne hg e.symm), putF_mid (fun x hx => ha x (List.mem_cons_of_mem _ hx)) hb]
theorem rising_split : ∀ {a b : List FileM}, Rising (a ++ b) → Rising a ∧ Rising b ∧ ∀ x ∈ a, ∀ y ∈ b, pless x.path y.path = true
  | [], b, h => ⟨trivial, h, fun x hx => by cases hx⟩
  | g :: r, b, ⟨h1, h2⟩ => by
    obtain ⟨k1, k2, k3⟩ := rising_split h2
    refine ⟨⟨fun x hx => h1 x (List.mem_append_left _ hx), k1⟩, k2, fun x hx y hy => ?_⟩
    rcases List.mem_cons.1 hx with hx | hx
    · rw [hx]; exact h1 y (List.mem_append_right _ hy)
    · exact k3 x hx y hy
/-- Striking a path out and putting a file in is putting it in. -/
theorem putF_drop : ∀ {fs : List FileM} {f : FileM}, Rising fs → putF (dropF fs f.path) f = putF fs f
  | [], f, _ => rfl
  | g :: r, f, ⟨h1, h2⟩ => by
    by_cases he : g.path = f.path
    · have hn : dropF (g :: r) f.path = r := by
        unfold dropF
        rw [List.filter_cons_of_neg (by simp [he])]
        rw [List.filter_eq_self]
        intro x hx
        have := pless_ne (h1 x hx)
        rw [he] at this
        simpa using fun e => this e.symm
      rw [hn]
      have hr : ∀ x ∈ r, pless f.path x.path = true := fun x hx => by rw [← he]; exact h1 x hx
      have e1 := putF_mid (a := []) (b := r) (f := f) (fun x hx => by cases hx) hr
      simp only [List.nil_append] at e1
      rw [e1]
      unfold putF
      rw [if_neg (by rw [he, pless_irrefl]; simp), if_pos he.symm]
    · have hn : dropF (g :: r) f.path = g :: dropF r f.path := by
        unfold dropF
        rw [List.filter_cons_of_pos (by simp [he])]
      rw [hn]
      unfold putF
      rw [putF_drop h2]
      by_cases hl : pless f.path g.path = true
      · rw [if_pos hl, if_pos hl]
        have hnone : dropF r f.path = r := by
          unfold dropF
          rw [List.filter_eq_self]
          intro x hx
          have := pless_ne (pless_trans hl (h1 x hx))
          simpa using fun e => this e.symm
        rw [hnone]
      · rw [if_neg hl, if_neg hl, if_neg (fun e => he e.symm), if_neg (fun e => he e.symm)]
end Go.Proofs.Ytcjbhjbjkfgphaa

/-
  The program's trees of nodes as data: nodes by their height, their files in order, what it is to put one in and to strike one out. No condition.
-/
import Derived.Test.YtcjbhjbjkfgphaaTmodel
namespace Go.Proofs.Ytcjbhjbjkfgphaa
open Go.RowKit

/-- A file and where its rope lies. -/
structure FX where
  f : FileM
  q : Option Addr
/-- A node of a height: a leaf's files; another one's files and kids. -/
def NT : Nat → Type
  | 0 => List FX
  | h + 1 => List FX × List (NT h)
/-- File, kid, file, kid. -/
def tailF : List FX → List (List FX) → List FX
  | f :: fs, k :: ks => f :: (k ++ tailF fs ks)
  | _, _ => []
/-- Kid, file, kid, file. -/
def headF : List FX → List (List FX) → List FX
  | f :: fs, k :: ks => k ++ f :: headF fs ks
  | _, _ => []
def weave (fs : List FX) : List (List FX) → List FX
  | [] => []
  | k :: ks => k ++ tailF fs ks
def NT.flat : (h : Nat) → NT h → List FX
  | 0, fs => fs
  | h + 1, (fs, ks) => weave fs (ks.map (NT.flat h))
def NT.files : (h : Nat) → NT h → List FX
  | 0, fs => fs
  | _ + 1, (fs, _) => fs
/-- From lo to hi files in the node, one or two in each other, all kids there. -/
def NT.ok (lo hi : Nat) : (h : Nat) → NT h → Prop
  | 0, fs => lo ≤ fs.length ∧ fs.length ≤ hi
  | h + 1, (fs, ks) => lo ≤ fs.length ∧ fs.length ≤ hi ∧ ks.length = fs.length + 1 ∧ ∀ k ∈ ks, NT.ok 1 2 h k
theorem NT.ok.len : ∀ {lo hi h : Nat} {t : NT h}, NT.ok lo hi h t → lo ≤ (NT.files h t).length ∧ (NT.files h t).length ≤ hi
  | _, _, 0, _, h => h
  | _, _, _ + 1, (_, _), h => ⟨h.1, h.2.1⟩
theorem NT.ok.to : ∀ {lo hi lo' hi' h : Nat} {t : NT h}, NT.ok lo hi h t → lo' ≤ (NT.files h t).length → (NT.files h t).length ≤ hi' → NT.ok lo' hi' h t
  | _, _, _, _, 0, _, _, a, b => ⟨a, b⟩
  | _, _, _, _, _ + 1, (_, _), h, a, b => ⟨a, b, h.2.2⟩

theorem tailF_weave (f : FX) (fs : List FX) (ks : List (List FX)) (h : ks ≠ []) : tailF (f :: fs) ks = f :: weave fs ks := by
  cases ks with
  | nil => exact absurd rfl h
  | cons k r => rfl
theorem weave_mid : ∀ {fs1 fs2 : List FX} {ks1 ks2 : List (List FX)} {k : List FX}, fs1.length = ks1.length → weave (fs1 ++ fs2) (ks1 ++ k :: ks2) = headF fs1 ks1 ++ (k ++ tailF fs2 ks2)
  | [], _, [], _, _, _ => rfl
  | f :: fs1, fs2, k1 :: ks1, ks2, k, h => by
    have ih := weave_mid (fs1 := fs1) (fs2 := fs2) (ks1 := ks1) (ks2 := ks2) (k := k) (by simpa using h)
    show k1 ++ tailF (f :: (fs1 ++ fs2)) (ks1 ++ k :: ks2) = (k1 ++ f :: headF fs1 ks1) ++ (k ++ tailF fs2 ks2)
    rw [tailF_weave _ _ _ (by simp), ih]
    simp
  | [], _, _ :: _, _, _, h => by simp at h
  | _ :: _, _, [], _, _, h => by simp at h
theorem headF_append : ∀ {a b : List FX} {ka kb : List (List FX)}, a.length = ka.length → headF (a ++ b) (ka ++ kb) = headF a ka ++ headF b kb
  | [], _, [], _, _ => rfl
  | f :: a, b, k :: ka, kb, h => by
    have ih := headF_append (a := a) (b := b) (ka := ka) (kb := kb) (by simpa using h)
    show k ++ f :: headF (a ++ b) (ka ++ kb) = (k ++ f :: headF a ka) ++ headF b kb
    rw [ih]
    simp
  | [], _, _ :: _, _, h => by simp at h
  | _ :: _, _, [], _, h => by simp at h
theorem tailF_append : ∀ {a b : List FX} {ka kb : List (List FX)}, a.length = ka.length → tailF (a ++ b) (ka ++ kb) = tailF a ka ++ tailF b kb
  | [], _, [], _, _ => rfl
  | f :: a, b, k :: ka, kb, h => by
    have ih := tailF_append (a := a) (b := b) (ka := ka) (kb := kb) (by simpa using h)
    show f :: (k ++ tailF (a ++ b) (ka ++ kb)) = f :: (k ++ tailF a ka) ++ tailF b kb
    rw [ih]
    simp
  | [], _, _ :: _, _, h => by simp at h
  | _ :: _, _, [], _, h => by simp at h
/-- Two nodes and a file between them, as one. -/
theorem weave_join {a b : List FX} {ka kb : List (List FX)} {m : FX} (ha : ka.length = a.length + 1) (hb : kb.length = b.length + 1) : weave (a ++ m :: b) (ka ++ kb) = weave a ka ++ m :: weave b kb := by
  obtain ⟨k, ks, rfl⟩ : ∃ k ks, ka = ks ++ [k] := by
    rcases List.eq_nil_or_concat ka with rfl | ⟨ks, k, rfl⟩
    · simp at ha
    · exact ⟨k, ks, by rw [List.concat_eq_append]⟩
  have hl : a.length = ks.length := by simp at ha; omega
  rw [List.append_assoc, List.singleton_append, weave_mid (fs2 := m :: b) hl, tailF_weave _ _ _ (by intro e; rw [e] at hb; simp at hb)]
  have := weave_mid (fs1 := a) (fs2 := []) (ks1 := ks) (ks2 := []) (k := k) hl
  rw [List.append_nil] at this
  rw [this]
  simp [tailF]

/-- All of them come ahead of a path; behind it. -/
def AllLt (l : List FX) (p : ByteArray) : Prop := ∀ x ∈ l, pless x.f.path p = true
def AllGt (l : List FX) (p : ByteArray) : Prop := ∀ x ∈ l, pless p x.f.path = true
def RisingX (l : List FX) : Prop := Rising (l.map (·.f))
theorem AllLt.append {a b : List FX} {p : ByteArray} (ha : AllLt a p) (hb : AllLt b p) : AllLt (a ++ b) p := fun x hx => (List.mem_append.1 hx).elim (ha x) (hb x)
theorem AllGt.append {a b : List FX} {p : ByteArray} (ha : AllGt a p) (hb : AllGt b p) : AllGt (a ++ b) p := fun x hx => (List.mem_append.1 hx).elim (ha x) (hb x)
theorem RisingX.split {a b : List FX} (h : RisingX (a ++ b)) : RisingX a ∧ RisingX b ∧ ∀ x ∈ a, ∀ y ∈ b, pless x.f.path y.f.path = true := by
  unfold RisingX at h
  rw [List.map_append] at h
  obtain ⟨h1, h2, h3⟩ := rising_split h
  exact ⟨h1, h2, fun x hx y hy => h3 x.f (List.mem_map_of_mem hx) y.f (List.mem_map_of_mem hy)⟩
theorem head_less {p : ByteArray} : ∀ {fs : List FX} {ks : List (List FX)}, RisingX (headF fs ks) → AllLt fs p → fs.length = ks.length → AllLt (headF fs ks) p
  | [], [], _, _, _ => fun x hx => by cases hx
  | f :: fs, k :: ks, hr, hf, hl => by
    have hfp := hf f List.mem_cons_self
    obtain ⟨_, h2, h3⟩ := RisingX.split (a := k) (b := f :: headF fs ks) hr
    intro x hx
    rcases List.mem_append.1 hx with hx | hx
    · exact pless_trans (h3 x hx f List.mem_cons_self) hfp
    · rcases List.mem_cons.1 hx with rfl | hx
      · exact hfp
      · exact head_less (fs := fs) (ks := ks) h2.2 (fun y hy => hf y (List.mem_cons_of_mem _ hy)) (by simpa using hl) x hx
  | [], _ :: _, _, _, hl => by simp at hl
  | _ :: _, [], _, _, hl => by simp at hl
theorem tail_more {p : ByteArray} : ∀ {fs : List FX} {ks : List (List FX)}, RisingX (tailF fs ks) → AllGt fs p → fs.length = ks.length → AllGt (tailF fs ks) p
  | [], [], _, _, _ => fun x hx => by cases hx
  | f :: fs, k :: ks, hr, hf, hl => by
    have hfp := hf f List.mem_cons_self
    obtain ⟨_, h2, h3⟩ := RisingX.split (a := [f]) (b := k ++ tailF fs ks) hr
    intro x hx
    rcases List.mem_cons.1 hx with rfl | hx
    · exact hfp
    · exact pless_trans hfp (h3 f List.mem_cons_self x hx)
  | [], _ :: _, _, _, hl => by simp at hl
  | _ :: _, [], _, _, hl => by simp at hl

/-- A file put in, for the one of its path, if there is one. -/
def PutX (xs : List FX) (x : FX) (ys : List FX) : Prop := ∃ a m b, xs = a ++ (m ++ b) ∧ ys = a ++ x :: b ∧ AllLt a x.f.path ∧ AllGt b x.f.path ∧ (m = [] ∨ ∃ o, m = [o] ∧ o.f.path = x.f.path)
/-- The file of a path struck out. -/
def CutX (xs : List FX) (p : ByteArray) (ys : List FX) : Prop := ∃ a o b, xs = a ++ o :: b ∧ ys = a ++ b ∧ AllLt a p ∧ AllGt b p ∧ o.f.path = p
theorem PutX.within {xs ys A B : List FX} {x : FX} (h : PutX xs x ys) (ha : AllLt A x.f.path) (hb : AllGt B x.f.path) : PutX (A ++ (xs ++ B)) x (A ++ (ys ++ B)) := by
  obtain ⟨a, m, b, rfl, rfl, h1, h2, h3⟩ := h
  exact ⟨A ++ a, m, b ++ B, by simp, by simp, ha.append h1, h2.append hb, h3⟩
theorem CutX.within {xs ys A B : List FX} {p : ByteArray} (h : CutX xs p ys) (ha : AllLt A p) (hb : AllGt B p) : CutX (A ++ (xs ++ B)) p (A ++ (ys ++ B)) := by
  obtain ⟨a, o, b, rfl, rfl, h1, h2, h3⟩ := h
  exact ⟨A ++ a, o, b ++ B, by simp, by simp, ha.append h1, h2.append hb, h3⟩
theorem putF_same {a b : List FileM} {f o : FileM} (ha : ∀ g ∈ a, pless g.path f.path = true) (ho : o.path = f.path) : putF (a ++ o :: b) f = a ++ f :: b := by
  induction a with
  | nil =>
    show putF (o :: b) f = f :: b
    unfold putF
    rw [ho, if_neg (by rw [pless_irrefl]; simp), if_pos rfl]
  | cons g r ih =>
    have hg := ha g List.mem_cons_self
    show putF (g :: (r ++ o :: b)) f = g :: (r ++ f :: b)
    unfold putF
    rw [if_neg (by rw [pless_asymm hg]; simp), if_neg (fun e => pless_ne hg e.symm), ih (fun x hx => ha x (List.mem_cons_of_mem _ hx))]
theorem PutX.is {xs ys : List FX} {x : FX} (h : PutX xs x ys) : ys.map (·.f) = putF (xs.map (·.f)) x.f := by
  obtain ⟨a, m, b, rfl, rfl, h1, h2, h3⟩ := h
  have ha : ∀ g ∈ a.map (·.f), pless g.path x.f.path = true := fun g hg => by
    obtain ⟨y, hy, rfl⟩ := List.mem_map.1 hg
    exact h1 y hy
  have hb : ∀ g ∈ b.map (·.f), pless x.f.path g.path = true := fun g hg => by
    obtain ⟨y, hy, rfl⟩ := List.mem_map.1 hg
    exact h2 y hy
  rcases h3 with rfl | ⟨o, rfl, ho⟩
  · simp only [List.nil_append, List.map_append, List.map_cons]
    rw [putF_mid ha hb]
  · simp only [List.singleton_append, List.map_append, List.map_cons]
    rw [putF_same ha ho]
theorem CutX.is {xs ys : List FX} {p : ByteArray} (h : CutX xs p ys) : ys.map (·.f) = dropF (xs.map (·.f)) p := by
  obtain ⟨a, o, b, rfl, rfl, h1, h2, h3⟩ := h
  have ha : (a.map (·.f)).filter (fun f => decide (f.path ≠ p)) = a.map (·.f) := by
    rw [List.filter_eq_self]
    intro g hg
    obtain ⟨y, hy, rfl⟩ := List.mem_map.1 hg
    simpa using pless_ne (h1 y hy)
  have hb : (b.map (·.f)).filter (fun f => decide (f.path ≠ p)) = b.map (·.f) := by
    rw [List.filter_eq_self]
    intro g hg
    obtain ⟨y, hy, rfl⟩ := List.mem_map.1 hg
    simpa using fun e => pless_ne (h2 y hy) e.symm
  unfold dropF
  rw [List.map_append, List.map_append, List.map_cons, List.filter_append, List.filter_cons_of_neg (by simp [h3]), ha, hb]
theorem PutX.rising {xs ys : List FX} {x : FX} (h : PutX xs x ys) (hr : RisingX xs) : RisingX ys := by
  unfold RisingX
  rw [h.is]
  exact rising_put _ hr
theorem CutX.rising {xs ys : List FX} {p : ByteArray} (h : CutX xs p ys) (hr : RisingX xs) : RisingX ys := by
  unfold RisingX
  rw [h.is]
  exact rising_sub _ hr
theorem CutX.len {xs ys : List FX} {p : ByteArray} (h : CutX xs p ys) : ys.length + 1 = xs.length := by
  obtain ⟨a, o, b, rfl, rfl, _⟩ := h
  simp only [List.length_append, List.length_cons]
  omega
theorem CutX.mem {xs ys : List FX} {p : ByteArray} (h : CutX xs p ys) : ∀ y ∈ ys, y ∈ xs := by
  obtain ⟨a, o, b, rfl, rfl, _⟩ := h
  intro y hy
  rcases List.mem_append.1 hy with hy | hy
  · exact List.mem_append_left _ hy
  · exact List.mem_append_right _ (List.mem_cons_of_mem _ hy)
theorem PutX.mem {xs ys : List FX} {x : FX} (h : PutX xs x ys) : ∀ y ∈ ys, y = x ∨ y ∈ xs := by
  obtain ⟨a, m, b, rfl, rfl, _⟩ := h
  intro y hy
  rcases List.mem_append.1 hy with hy | hy
  · exact .inr (List.mem_append_left _ hy)
  · rcases List.mem_cons.1 hy with hy | hy
    · exact .inl hy
    · exact .inr (List.mem_append_right _ (List.mem_append_right _ hy))
/-- What strikes the last one out. -/
theorem CutX.last {c ys : List FX} {x : FX} (h : CutX (c ++ [x]) x.f.path ys) : ys = c := by
  obtain ⟨a, o, b, e, rfl, h1, h2, h3⟩ := h
  rcases List.eq_nil_or_concat b with rfl | ⟨b', y, rfl⟩
  · have := List.append_inj_left' (s₁ := c) (s₂ := a) (t₁ := [x]) (t₂ := [o]) e rfl
    rw [this, List.append_nil]
  · rw [List.concat_eq_append] at e h2
    have e' : c ++ [x] = (a ++ o :: b') ++ [y] := by rw [e]; simp
    have hxy : x = y := by
      have := List.append_inj_right' e' rfl
      simpa using this
    have := h2 y (by simp)
    rw [hxy, pless_irrefl] at this
    cases this
/-- Not deep. -/
theorem weave_len : ∀ {fs : List FX} {ks : List (List FX)} (n : Nat), ks.length = fs.length + 1 → (∀ k ∈ ks, n ≤ k.length + 1) → (fs.length + 1) * n ≤ (weave fs ks).length + 1
  | [], [k], n, _, h => by
    have := h k List.mem_cons_self
    simp only [weave, tailF, List.append_nil, List.length_nil]
    omega
  | f :: fs, k :: k2 :: ks, n, hl, h => by
    have ih := weave_len (fs := fs) (ks := k2 :: ks) n (by simpa using hl) (fun x hx => h x (List.mem_cons_of_mem _ hx))
    have hk := h k List.mem_cons_self
    show (fs.length + 1 + 1) * n ≤ (k ++ tailF (f :: fs) (k2 :: ks)).length + 1
    rw [tailF_weave _ _ _ (by simp), List.length_append, List.length_cons, Nat.add_mul]
    omega
  | [], [], n, hl, _ => by simp at hl
  | [], _ :: _ :: _, n, hl, _ => by simp at hl
  | _ :: _, [], n, hl, _ => by simp at hl
  | _ :: _, [_], n, hl, _ => by simp at hl
theorem NT.ok.deep : ∀ {h : Nat} {lo hi : Nat} {t : NT h}, NT.ok lo hi h t → 1 ≤ lo → 2 ^ (h + 1) ≤ (NT.flat h t).length + 1
  | 0, lo, hi, fs, h, hlo => by
    have := h.1
    simp only [NT.flat, Nat.zero_add, Nat.pow_one]
    omega
  | h + 1, lo, hi, (fs, ks), ⟨h1, _, h3, h4⟩, hlo => by
    have := weave_len (fs := fs) (ks := ks.map (NT.flat h)) (2 ^ (h + 1)) (by simpa using h3) (fun k hk => by
      obtain ⟨t, ht, rfl⟩ := List.mem_map.1 hk
      exact NT.ok.deep (h4 t ht) (Nat.le_refl _))
    have h2 : 2 * 2 ^ (h + 1) ≤ (fs.length + 1) * 2 ^ (h + 1) := Nat.mul_le_mul_right _ (by omega)
    simp only [NT.flat]
    rw [Nat.pow_succ 2 (h + 1)]
    omega
end Go.Proofs.Ytcjbhjbjkfgphaa

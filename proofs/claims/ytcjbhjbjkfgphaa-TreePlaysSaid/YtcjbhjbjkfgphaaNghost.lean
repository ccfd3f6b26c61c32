/-
  The program's trees in memory, by their height; what halves and joined make of them. No condition.
-/
import Derived.Test.YtcjbhjbjkfgphaaNjoin
namespace Go.Proofs.Ytcjbhjbjkfgphaa
open Go.RowKit Go.Deep

/-- A node of a height in memory. -/
def IsN (w : World) : (h : Nat) → NT h → Nat → Prop
  | 0, fs, b => NodeAt w b fs []
  | h + 1, (fs, ks), b => ∃ ad : List Nat, NodeAt w b fs ad ∧ ad.length = (ks : List (NT h)).length ∧ ∀ (i : Nat) (k : NT h) (a : Nat), (ks : List (NT h))[i]? = some k → ad[i]? = some a → IsN w h k a
theorem IsN.below {w w' : World} (hb : Below w.heap.size w w') : ∀ {h : Nat} {t : NT h} {b : Nat}, IsN w h t b → IsN w' h t b
  | 0, _, _, h => NodeAt.below h hb
  | _ + 1, (_, _), _, ⟨ad, h1, h2, h3⟩ => ⟨ad, h1.below hb, h2, fun i k a hk ha => IsN.below hb (h3 i k a hk ha)⟩
/-- Kids in memory. -/
def KidsAre (w : World) (h : Nat) (ks : List (NT h)) (ad : List Nat) : Prop := ad.length = ks.length ∧ ∀ (i : Nat) (k : NT h) (a : Nat), ks[i]? = some k → ad[i]? = some a → IsN w h k a
theorem KidsAre.below {w w' : World} {h : Nat} {ks : List (NT h)} {ad : List Nat} (hk : KidsAre w h ks ad) (hb : Below w.heap.size w w') : KidsAre w' h ks ad := ⟨hk.1, fun i k a h1 h2 => (hk.2 i k a h1 h2).below hb⟩
theorem KidsAre.take {w : World} {h : Nat} {ks : List (NT h)} {ad : List Nat} (hk : KidsAre w h ks ad) (n : Nat) : KidsAre w h (ks.take n) (ad.take n) := by
  refine ⟨by rw [List.length_take, List.length_take, hk.1], fun i k a h1 h2 => ?_⟩
  rw [List.getElem?_take] at h1 h2
  split at h1
  · rename_i hi
    rw [if_pos hi] at h2
    exact hk.2 i k a h1 h2
  · cases h1
theorem KidsAre.drop {w : World} {h : Nat} {ks : List (NT h)} {ad : List Nat} (hk : KidsAre w h ks ad) (n : Nat) : KidsAre w h (ks.drop n) (ad.drop n) := by
  refine ⟨by rw [List.length_drop, List.length_drop, hk.1], fun i k a h1 h2 => ?_⟩
  rw [List.getElem?_drop] at h1 h2
  exact hk.2 _ k a h1 h2
theorem KidsAre.append {w : World} {h : Nat} {ks ls : List (NT h)} {ad bd : List Nat} (hk : KidsAre w h ks ad) (hl : KidsAre w h ls bd) : KidsAre w h (ks ++ ls) (ad ++ bd) := by
  refine ⟨by rw [List.length_append, List.length_append, hk.1, hl.1], fun i k a h1 h2 => ?_⟩
  by_cases hi : i < ks.length
  · rw [List.getElem?_append_left hi] at h1
    rw [List.getElem?_append_left (by rw [hk.1]; exact hi)] at h2
    exact hk.2 i k a h1 h2
  · rw [List.getElem?_append_right (by omega)] at h1
    rw [List.getElem?_append_right (by rw [hk.1]; omega), hk.1] at h2
    exact hl.2 _ k a h1 h2
theorem KidsAre.one {w : World} {h : Nat} {t : NT h} {a : Nat} (ht : IsN w h t a) : KidsAre w h [t] [a] := ⟨rfl, fun i k b h1 h2 => by
  match i with
  | 0 =>
    simp at h1 h2
    subst h1
    subst h2
    exact ht
  | i + 1 => simp at h1⟩
theorem KidsAre.nil (w : World) (h : Nat) : KidsAre w h [] [] := ⟨rfl, fun i k a h1 _ => by simp at h1⟩
/-- A node in memory, whatever its height. -/
theorem IsN.node {w : World} : ∀ {h : Nat} {t : NT h} {b : Nat} {lo hi : Nat}, IsN w h t b → NT.ok lo hi h t → ∃ ad, NodeAt w b (NT.files h t) ad ∧ (ad = [] ∨ ad.length = (NT.files h t).length + 1) ∧ (h = 0 → ad = [])
  | 0, _, _, _, _, h, _ => ⟨[], h, .inl rfl, fun _ => rfl⟩
  | _ + 1, (_, _), _, _, _, ⟨ad, h1, h2, _⟩, ho => ⟨ad, h1, .inr (by rw [h2]; exact ho.2.2.1), fun h => by cases h⟩
theorem weave_one (fs : List FX) {h : Nat} (ks : List (NT h)) : NT.flat (h + 1) (fs, ks) = weave fs (ks.map (NT.flat h)) := rfl
/-- The halves of a node of three files. -/
theorem NT.halves {w : World} : ∀ {h : Nat} {t : NT h} {k : Nat}, IsN w h t k → NT.ok 3 3 h t → ∃ x0 x1 x2 ad, NodeAt w k [x0, x1, x2] ad ∧ (ad = [] ∨ ad.length = 4) ∧ ∃ ta tb : NT h, NT.flat h t = NT.flat h ta ++ x1 :: NT.flat h tb ∧ NT.ok 1 1 h ta ∧ NT.ok 1 1 h tb ∧
    ∀ w' a b, Below w.heap.size w w' → NodeAt w' a [x0] (ad.take 2) → NodeAt w' b [x2] (ad.drop 2) → IsN w' h ta a ∧ IsN w' h tb b
  | 0, [x0, x1, x2], k, h, _ => ⟨x0, x1, x2, [], h, .inl rfl, [x0], [x2], rfl, ⟨Nat.le_refl 1, Nat.le_refl 1⟩, ⟨Nat.le_refl 1, Nat.le_refl 1⟩, fun w' a b _ h1 h2 => ⟨h1, h2⟩⟩
  | 0, [], _, _, ho => by have := ho.1; simp at this
  | 0, [_], _, _, ho => by have := ho.1; simp at this
  | 0, [_, _], _, _, ho => by have := ho.1; simp at this
  | 0, _ :: _ :: _ :: _ :: _, _, _, ho => by have := ho.2; simp at this
  | h + 1, (fs, ks), k, ⟨ad, h1, h2, h3⟩, ⟨o1, o2, o3, o4⟩ => by
    obtain ⟨x0, x1, x2, rfl⟩ : ∃ x0 x1 x2, fs = [x0, x1, x2] := by
      match fs, o1, o2 with
      | [x0, x1, x2], _, _ => exact ⟨x0, x1, x2, rfl⟩
    obtain ⟨k0, k1, k2, k3, rfl⟩ : ∃ k0 k1 k2 k3, ks = [k0, k1, k2, k3] := by
      match ks, o3 with
      | [k0, k1, k2, k3], _ => exact ⟨k0, k1, k2, k3, rfl⟩
    have hkids : KidsAre w h [k0, k1, k2, k3] ad := ⟨h2, h3⟩
    refine ⟨x0, x1, x2, ad, h1, .inr h2, ([x0], [k0, k1]), ([x2], [k2, k3]), ?_, ⟨Nat.le_refl 1, Nat.le_refl 1, rfl, ?_⟩, ⟨Nat.le_refl 1, Nat.le_refl 1, rfl, ?_⟩, fun w' a b hb ha hbn => ?_⟩
    · simp [NT.flat, weave, tailF]
    · intro k hk
      exact o4 k (by simp at hk ⊢; rcases hk with rfl | rfl <;> simp)
    · intro k hk
      exact o4 k (by simp at hk ⊢; rcases hk with rfl | rfl <;> simp)
    · have ht := (hkids.take 2).below hb
      have hd := (hkids.drop 2).below hb
      exact ⟨⟨_, ha, ht.1, ht.2⟩, ⟨_, hbn, hd.1, hd.2⟩⟩
theorem len_join (t u : List FX) (x : FX) : (t ++ x :: u).length = t.length + 1 + u.length := by
  rw [List.length_append, List.length_cons]
  omega
/-- Two nodes joined. -/
theorem NT.join {w : World} (x : FX) : ∀ {h : Nat} {t u : NT h} {a b : Nat} {l1 u1 l2 u2 : Nat}, IsN w h t a → IsN w h u b → NT.ok l1 u1 h t → NT.ok l2 u2 h u → ∃ ka kb, NodeAt w a (NT.files h t) ka ∧ NodeAt w b (NT.files h u) kb ∧ ka.length ≤ (NT.files h t).length + 1 ∧ kb.length ≤ (NT.files h u).length + 1 ∧
    ∃ v : NT h, NT.flat h v = NT.flat h t ++ x :: NT.flat h u ∧ (NT.files h v).length = (NT.files h t).length + 1 + (NT.files h u).length ∧ (∀ lo hi, lo ≤ (NT.files h v).length → (NT.files h v).length ≤ hi → NT.ok lo hi h v) ∧
    ∀ w' c, Below w.heap.size w w' → NodeAt w' c (NT.files h t ++ x :: NT.files h u) (ka ++ kb) → IsN w' h v c
  | 0, t, u, a, b, _, _, _, _, ht, hu, _, _ => ⟨[], [], ht, hu, Nat.zero_le _, Nat.zero_le _, @List.append FX t (@List.cons FX x u), rfl, len_join t u x, fun _ _ h1 h2 => ⟨h1, h2⟩, fun w' c _ h => h⟩
  | h + 1, (f1, k1), (f2, k2), a, b, _, _, _, _, ⟨ad, p1, p2, p3⟩, ⟨bd, q1, q2, q3⟩, ⟨_, _, o3, o4⟩, ⟨_, _, r3, r4⟩ => by
    refine ⟨ad, bd, p1, q1, by rw [p2, o3]; exact Nat.le_refl _, by rw [q2, r3]; exact Nat.le_refl _, (f1 ++ x :: f2, k1 ++ k2), ?_, ?_, fun lo hi h1 h2 => ⟨h1, h2, ?_, ?_⟩, fun w' c hb hc => ?_⟩
    · show weave (f1 ++ x :: f2) ((k1 ++ k2).map (NT.flat h)) = _
      rw [List.map_append, weave_join (by rw [List.length_map]; exact o3) (by rw [List.length_map]; exact r3)]
      rfl
    · show (f1 ++ x :: f2).length = f1.length + 1 + f2.length
      rw [List.length_append, List.length_cons]
      omega
    · rw [List.length_append, List.length_append, List.length_cons, o3, r3]
      omega
    · intro k hk
      rcases List.mem_append.1 hk with hk | hk
      · exact o4 k hk
      · exact r4 k hk
    · have hk := ((show KidsAre w h k1 ad from ⟨p2, p3⟩).append (show KidsAre w h k2 bd from ⟨q2, q3⟩)).below hb
      exact ⟨_, hc, hk.1, hk.2⟩
/-- spliced, of files; of kids. -/
theorem splF {W : World} {A B : Option Addr} {n c m d : Nat} {xs ys : List FX} (i j : Nat) (hij : i ≤ j) (hj : j ≤ n) (hnc : n ≤ c) (ex : n = xs.length) (ey : m = ys.length) (hn : n ≤ 4096) (hm : m ≤ 4096) (rx : RawAt W A (xsV xs)) (ry : RawAt W B (xsV ys)) :
    Calls Try.prog 41 #[.slice A n c, .int .i64 (i : Int), .int .i64 (j : Int), .slice B m d] W (RowNew (i + m + (n - j)) (xsV (xs.take i ++ ys ++ xs.drop j)) W) := by
  have h := spliced_file (d := d) i j hij hj hnc hn hm rx (by rw [length_xsV, ex]) oneCell_xsV ry (by rw [length_xsV, ey]) oneCell_xsV
  rw [xsV_take, xsV_drop, ← xsV_append, ← xsV_append] at h
  exact h.mono fun e w' h => h.row
theorem splK {W : World} {A B : Option Addr} {n c m d : Nat} {xs ys : List Nat} (i j : Nat) (hij : i ≤ j) (hj : j ≤ n) (hnc : n ≤ c) (ex : n = xs.length) (ey : m = ys.length) (hn : n ≤ 4096) (hm : m ≤ 4096) (rx : RawAt W A (ksV xs)) (ry : RawAt W B (ksV ys)) :
    Calls Try.prog 58 #[.slice A n c, .int .i64 (i : Int), .int .i64 (j : Int), .slice B m d] W (RowNew (i + m + (n - j)) (ksV (xs.take i ++ ys ++ xs.drop j)) W) := by
  have h := spliced_node (d := d) i j hij hj hnc hn hm rx (by rw [length_ksV, ex]) oneCell_ksV ry (by rw [length_ksV, ey]) oneCell_ksV
  rw [ksV_take, ksV_drop, show ksV (xs.take i) ++ ksV ys ++ ksV (xs.drop j) = ksV (xs.take i ++ ys ++ xs.drop j) by simp [ksV]] at h
  exact h.mono fun e w' h => h.row
theorem raw_ks1 {W : World} {g k : Nat} {fr : Nat × Nat} {t : TypeId} (h : W.heap[g]? = some (.cells #[.pointer (some ⟨k, 0, none⟩)] t fr)) : RawAt W (some ⟨g, 0, none⟩) (ksV [k]) :=
  .inr ⟨g, 0, rfl, fun j v hv => by
    rw [Nat.zero_add, obj_cell h j]
    simpa [ksV, ptrV] using hv⟩
theorem raw_ks2 {W : World} {g k l : Nat} {fr : Nat × Nat} {t : TypeId} (h : W.heap[g]? = some (.cells #[.pointer (some ⟨k, 0, none⟩), .pointer (some ⟨l, 0, none⟩)] t fr)) : RawAt W (some ⟨g, 0, none⟩) (ksV [k, l]) :=
  .inr ⟨g, 0, rfl, fun j v hv => by
    rw [Nat.zero_add, obj_cell h j]
    simpa [ksV, ptrV] using hv⟩
end Go.Proofs.Ytcjbhjbjkfgphaa

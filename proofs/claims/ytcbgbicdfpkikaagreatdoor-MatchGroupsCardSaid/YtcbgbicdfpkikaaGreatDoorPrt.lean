/-
  What is parsed is right, as data. No condition.
-/
import Derived.Test.YtcbgbicdfpkikaaGreatDoorK06
import Derived.Test.YtcbgbicdfpkikaaGreatDoorK23
namespace Go.Proofs.YtcbgbicdfpkikaaGreatDoor
open Go.RowKit

mutual
/-- A tree as it should be, the groups before it and with it counted. -/
inductive Right : PN → Nat → Nat → Prop
  | leaf (k : Int) (T : Nat → Nat) (lo hi num : Int) (g : Nat) (hk : k = 1 ∨ k = 6 ∨ k = 7) : Right (.mk k T lo hi num []) g g
  | many (k : Int) (T : Nat → Nat) (lo hi num : Int) (kids : List PN) (g g' : Nat) (hk : k = 2 ∨ k = 3) (h2 : 1 < kids.length) (h4 : kids.length ≤ 4096) (h : RightL kids g g') : Right (.mk k T lo hi num kids) g g'
  | group (T : Nat → Nat) (lo hi : Int) (n : PN) (g g' : Nat) (h : RightL [n] (g + 1) g') : Right (.mk 5 T lo hi ((g + 1 : Nat) : Int) [n]) g g'
  | rep (T : Nat → Nat) (lo hi num : Int) (n : PN) (g g' : Nat) (h0 : 0 ≤ lo) (h1 : lo ≤ 20) (h2 : hi ≤ 20) (h3 : hi = -1 ∨ lo ≤ hi) (hk : n.kind = 1 ∨ n.kind = 5) (h : RightL [n] g g') : Right (.mk 4 T lo hi num [n]) g g'
inductive RightL : List PN → Nat → Nat → Prop
  | nil (g : Nat) : RightL [] g g
  | cons {n : PN} {r : List PN} {g g1 g2 : Nat} (h : Right n g g1) (k : RightL r g1 g2) : RightL (n :: r) g g2
end
theorem RightL.one {n : PN} {g g' : Nat} (h : Right n g g') : RightL [n] g g' := .cons h (.nil _)
theorem RightL.of_one {n : PN} {g g' : Nat} (h : RightL [n] g g') : Right n g g' := by
  cases h with
  | cons h k => cases k; exact h
theorem RightL.push : ∀ {l : List PN} {n : PN} {g g1 g2 : Nat}, RightL l g g1 → Right n g1 g2 → RightL (l ++ [n]) g g2
  | [], _, _, _, _, h, k => by
    cases h
    exact .one k
  | _ :: _, _, _, _, _, h, k => by
    cases h with
    | cons h1 h2 => exact .cons h1 (RightL.push h2 k)
/-- A token's numbers, where it repeats. -/
def TokOk (t : Tok) : Prop := t.kind = 7 → 0 ≤ t.lo ∧ t.lo ≤ 20 ∧ t.hi ≤ 20 ∧ (t.hi = -1 ∨ t.lo ≤ t.hi)
def ToksOk (l : List Tok) : Prop := ∀ t ∈ l, TokOk t
theorem ToksOk.drop {l : List Tok} (h : ToksOk l) (k : Nat) : ToksOk (l.drop k) := fun t ht => h t (List.mem_of_mem_drop ht)
theorem ToksOk.tail {t : Tok} {l : List Tok} (h : ToksOk (t :: l)) : ToksOk l := fun u hu => h u (List.mem_cons_of_mem _ hu)
theorem TokOk.of {t : Tok} (h : t.kind ≠ 7) : TokOk t := fun h7 => absurd h7 h
theorem numP_le (l : List UInt8) (h : (numP l).2 = true) : (numP l).1 ≤ 20 := by
  unfold numP at h ⊢
  split at h
  · cases h
  · rename_i h1
    rw [if_neg h1]
    split at h
    · cases h
    · rename_i n hn
      simp only
      exact of_decide_eq_true h
theorem rep_ok (a b : Int) (h : 0 ≤ a ∧ a ≤ 20 ∧ b ≤ 20 ∧ (b = -1 ∨ a ≤ b)) : TokOk (repT a b) := fun _ => h
theorem intT_ok (m : Nat) (close r : List UInt8) : TokOk (intT m close r).1 := by
  unfold intT
  simp only
  split
  · exact .of (by decide)
  · rename_i h1
    have hlo : (numP (Lib.cut (Lib.cut r close).1 [44]).1).2 = true := by
      cases h : (numP (Lib.cut (Lib.cut r close).1 [44]).1).2 with
      | true => rfl
      | false => exact absurd (.inr h) h1
    have h20 := numP_le _ hlo
    split
    · exact rep_ok _ _ ⟨by omega, by omega, by omega, .inr (Int.le_refl _)⟩
    · split
      · exact rep_ok _ _ ⟨by omega, by omega, by omega, .inl rfl⟩
      · split
        · exact .of (by decide)
        · rename_i h2
          have hhi : (numP (Lib.cut (Lib.cut r close).1 [44]).2.1).2 = true := by
            cases h : (numP (Lib.cut (Lib.cut r close).1 [44]).2.1).2 with
            | true => rfl
            | false => exact absurd (.inl h) h2
          have h21 := numP_le _ hhi
          have h3 : ¬ (numP (Lib.cut (Lib.cut r close).1 [44]).2.1).1 < (numP (Lib.cut (Lib.cut r close).1 [44]).1).1 := fun h => h2 (.inr h)
          exact rep_ok _ _ ⟨by omega, by omega, by omega, .inr (by omega)⟩
theorem escT_ok (them r : List UInt8) : TokOk (escT them r).1 := by
  unfold escT
  split
  · exact .of (by decide)
  · split
    · exact .of (by decide)
    · split
      · exact .of (by decide)
      · exact .of (by simp only [oneT]; decide)
theorem brkT_ok (bk : BkF) (r : List UInt8) : TokOk (brkT bk r).1 := by
  unfold brkT
  split
  · exact .of (by decide)
  · exact .of (by simp only; decide)
theorem of_ok (k : Int) (h : k ≠ 7) : TokOk (Tok.of k) := .of h
theorem oneT_ok (c : Nat) : TokOk (oneT c) := .of (by simp only [oneT]; decide)
theorem anyT_ok : TokOk anyT := .of (by simp only [anyT]; decide)
theorem ok_ite {p : Prop} [Decidable p] {a b : Tok × Nat} (ha : TokOk a.1) (hb : TokOk b.1) : TokOk (if p then a else b).1 := by
  by_cases h : p
  · rw [if_pos h]; exact ha
  · rw [if_neg h]; exact hb
theorem extT_ok (bk : BkF) (l : List UInt8) : TokOk (extT bk l).1 := by
  unfold extT
  split
  · exact .of (by decide)
  · repeat' first | exact anyT_ok | exact brkT_ok _ _ | exact escT_ok _ _ | exact intT_ok _ _ _ | exact oneT_ok _ | exact of_ok _ (by decide) | (refine rep_ok _ _ ?_; decide) | refine ok_ite ?_ ?_
theorem basT_ok (bk : BkF) (ah : Int) (l : List UInt8) : TokOk (basT bk ah l).1 := by
  unfold basT
  split
  · exact .of (by decide)
  · unfold basEsc
    repeat' split
    all_goals first | exact anyT_ok | exact brkT_ok _ _ | exact escT_ok _ _ | exact intT_ok _ _ _ | exact oneT_ok _ | exact of_ok _ (by decide) | (refine rep_ok _ _ ?_; decide)
theorem firstT_ok (bk : BkF) (ext : Bool) (ah : Int) (l : List UInt8) : TokOk (firstT bk ext ah l).1 := by
  unfold firstT
  split
  · exact extT_ok _ _
  · exact basT_ok _ _ _
theorem toksF_ok (bk : BkF) (ext : Bool) : ∀ (k : Nat) (ah : Int) (l : List UInt8) (ts : List Tok), toksF bk ext k ah l = some ts → ToksOk ts
  | 0, ah, [], ts, h => by simp [toksF] at h; subst h; intro t ht; cases ht
  | 0, ah, c :: r, ts, h => by simp [toksF] at h
  | k + 1, ah, [], ts, h => by simp [toksF] at h; subst h; intro t ht; cases ht
  | k + 1, ah, c :: r, ts, h => by
    simp only [toksF] at h
    split at h
    · cases h
    · obtain ⟨us, hu, rfl⟩ := Option.map_eq_some_iff.1 h
      have ih := toksF_ok bk ext k _ _ us hu
      intro t ht
      rcases List.mem_cons.1 ht with rfl | ht
      · exact firstT_ok bk ext ah (c :: r)
      · exact ih t ht
theorem toksF_le {bk : BkF} {ext : Bool} : ∀ (k : Nat) (ah : Int) (l : List UInt8) (ts : List Tok), toksF bk ext k ah l = some ts → ts.length ≤ k
  | 0, ah, [], ts, h => by simp [toksF] at h; subst h; simp
  | 0, ah, c :: r, ts, h => by simp [toksF] at h
  | k + 1, ah, [], ts, h => by simp [toksF] at h; subst h; simp
  | k + 1, ah, c :: r, ts, h => by
    simp only [toksF] at h
    split at h
    · cases h
    · obtain ⟨us, hu, rfl⟩ := Option.map_eq_some_iff.1 h
      have := toksF_le k _ _ us hu
      simp only [List.length_cons]
      omega
theorem right_join {k : Int} (hk : k = 2 ∨ k = 3) {l : List PN} {n : PN} {g g' : Nat} (h4 : l.length + 1 ≤ 4096) (h : RightL (l ++ [n]) g g') : Right (joinK k (l ++ [n])) g g' := by
  unfold joinK
  split
  · rename_i x e
    rw [e] at h
    exact h.of_one
  · rename_i hne
    refine .many k noS 0 0 0 _ g g' hk ?_ (by rw [List.length_append]; exact h4) h
    cases l with
    | nil => exact absurd rfl (hne n)
    | cons a r => simp
theorem right_rep {n : PN} {g g' : Nat} {l : List Tok} (h : Right n g g') (hk : n.kind = 1 ∨ n.kind = 5) (hl : ToksOk l) : Right (repP n l).1 g g' ∧ ToksOk (repP n l).2 := by
  cases l with
  | nil => exact ⟨h, hl⟩
  | cons t r =>
    simp only [repP]
    split
    · rename_i h7
      obtain ⟨h0, h1, h2, h3⟩ := hl t (List.mem_cons_self ..) h7
      exact ⟨.rep noS t.lo t.hi 0 n g g' h0 h1 h2 h3 hk (.one h), hl.tail⟩
    · exact ⟨h, hl⟩
/-- What is parsed is right. -/
theorem right_parse : ∀ f : Nat,
    (∀ acc l g g0 n l1 g1, altP f acc l g = some (n, l1, g1) → acc.length + l.length ≤ 4096 → ToksOk l → RightL acc g0 g → g ≤ 9 → Right n g0 g1 ∧ ToksOk l1 ∧ g1 ≤ 9) ∧
    (∀ acc l g g0 n l1 g1, rowP f acc l g = some (n, l1, g1) → acc.length + l.length ≤ 4096 → ToksOk l → RightL acc g0 g → g ≤ 9 → Right n g0 g1 ∧ ToksOk l1 ∧ g1 ≤ 9) ∧
    (∀ l g n l1 g1, pieceP f l g = some (n, l1, g1) → l.length ≤ 4096 → ToksOk l → g ≤ 9 → Right n g g1 ∧ ToksOk l1 ∧ g1 ≤ 9) ∧
    (∀ l g n l1 g1, groupP f l g = some (n, l1, g1) → l.length ≤ 4096 → ToksOk l → g ≤ 9 → Right n g g1 ∧ n.kind = 5 ∧ ToksOk l1 ∧ g1 ≤ 9)
  | 0 => ⟨fun acc l g g0 n l1 g1 h => by simp [altP] at h, fun acc l g g0 n l1 g1 h => by simp [rowP] at h, fun l g n l1 g1 h => by simp [pieceP] at h, fun l g n l1 g1 h => by simp [groupP] at h⟩
  | f + 1 => by
    obtain ⟨ia, ir, ip, ig⟩ := right_parse f
    refine ⟨fun acc l g g0 n l1 g1 h hz ht ha hg => ?_, fun acc l g g0 n l1 g1 h hz ht ha hg => ?_, fun l g n l1 g1 h hz ht hg => ?_, fun l g n l1 g1 h hz ht hg => ?_⟩
    · simp only [altP] at h
      cases hr : rowP f [] l g with
      | none => rw [hr] at h; cases h
      | some x =>
        obtain ⟨m, l2, g2⟩ := x
        rw [hr] at h
        obtain ⟨h1, h2, h3⟩ := ir _ _ _ g _ _ _ hr (by simp only [List.length_nil]; omega) ht (.nil g) hg
        have hless := (parse_less f).2.1 _ _ _ _ _ _ hr
        simp only at h
        split at h
        · exact ia _ _ _ _ _ _ _ h (by simp only [List.length_append, List.length_drop, List.length_cons, List.length_nil]; omega) (h2.drop 1) (ha.push h1) h3
        · cases h
          exact ⟨right_join (.inr rfl) (by omega) (ha.push h1), h2, h3⟩
    · simp only [rowP] at h
      cases hr : pieceP f l g with
      | none => rw [hr] at h; cases h
      | some x =>
        obtain ⟨m, l2, g2⟩ := x
        rw [hr] at h
        obtain ⟨h1, h2, h3⟩ := ip _ _ _ _ _ hr (by omega) ht hg
        have hless := (parse_less f).2.2.1 _ _ _ _ _ hr
        simp only at h
        split at h
        · exact ir _ _ _ _ _ _ _ h (by simp only [List.length_append, List.length_cons, List.length_nil]; omega) h2 (ha.push h1) h3
        · cases h
          exact ⟨right_join (.inl rfl) (by omega) (ha.push h1), h2, h3⟩
    · cases l with
      | nil => simp [pieceP] at h
      | cons t r =>
        simp only [pieceP] at h
        split at h
        · cases h; exact ⟨.leaf 6 noS 0 0 0 g (.inr (.inl rfl)), ht.tail, hg⟩
        · split at h
          · cases h; exact ⟨.leaf 7 noS 0 0 0 g (.inr (.inr rfl)), ht.tail, hg⟩
          · split at h
            · cases h
              have := right_rep (.leaf 1 t.set 0 0 0 g (.inl rfl)) (.inl rfl) ht.tail
              exact ⟨this.1, this.2, hg⟩
            · split at h
              · cases hr : groupP f r g with
                | none => rw [hr] at h; cases h
                | some x =>
                  obtain ⟨m, l2, g2⟩ := x
                  rw [hr] at h
                  obtain ⟨h1, h2, h3, h4⟩ := ig _ _ _ _ _ hr (by simp only [List.length_cons] at hz; omega) ht.tail hg
                  cases h
                  have := right_rep h1 (.inr h2) h3
                  exact ⟨this.1, this.2, h4⟩
              · cases h
    · simp only [groupP] at h
      cases hr : altP f [] l (g + 1) with
      | none => rw [hr] at h; cases h
      | some x =>
        obtain ⟨m, l2, g2⟩ := x
        rw [hr] at h
        simp only at h
        split at h
        · cases h
        · rename_i hn
          obtain ⟨h1, h2, h3⟩ := ia _ _ _ (g + 1) _ _ _ hr (by simp only [List.length_nil]; omega) ht (.nil _) (by
            cases Nat.lt_or_ge 9 (g + 1) with
            | inl h => exact absurd (.inl h) hn
            | inr h => exact h)
          cases h
          exact ⟨.group noS 0 0 m g _ (.one h1), rfl, h2.drop 1, h3⟩
theorem right_of {bk : BkF} {ext : Bool} {l : List UInt8} {n : PN} (h : parseP bk ext l = some n) : 0 < l.length ∧ l.length ≤ 200 ∧ ∃ g, g ≤ 9 ∧ Right n 0 g := by
  unfold parseP at h
  split at h
  · cases h
  · rename_i hz
    cases ht : toksF bk ext 200 4 l with
    | none => rw [ht] at h; cases h
    | some ts =>
      rw [ht] at h
      simp only at h
      cases ha : altP 1001 [] ts 0 with
      | none => rw [ha] at h; cases h
      | some x =>
        obtain ⟨m, r, g⟩ := x
        rw [ha] at h
        simp only at h
        split at h
        · cases h
          obtain ⟨h1, _, h3⟩ := (right_parse 1001).1 _ _ _ 0 _ _ _ ha (by have := toksF_le 200 4 l ts ht; simp only [List.length_nil]; omega) (toksF_ok _ _ _ _ _ _ ht) (.nil _) (Nat.zero_le _)
          refine ⟨?_, by omega, g, h3, h1⟩
          cases l with
          | nil =>
            have e : ts = [] := by
              rw [show toksF bk ext 200 4 [] = some [] from rfl] at ht
              cases ht
              rfl
            subst e
            have := ((parse_less 1001).1 [] [] 0 _ _ _ ha).1
            simp at this
          | cons c q => simp
        · cases h
end Go.Proofs.YtcbgbicdfpkikaaGreatDoor

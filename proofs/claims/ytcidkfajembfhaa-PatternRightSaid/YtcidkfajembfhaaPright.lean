/-
  What is parsed is right: pure. No condition.
  The law's right, of a tree that is right. No condition.
-/
import Derived.Test.YtcidkfajembfhaaPmodel
import Derived.Test.YtcidkfajembfhaaPpars
namespace Go.Proofs.Ytcidkfajembfhaa
open Go.RowKit

mutual
/-- A tree as it should be, the groups before it and with it counted. -/
inductive Right : PN → Nat → Nat → Prop
  | leaf (k : Int) (T : Nat → Nat) (lo hi num : Int) (g : Nat) (hk : k = 1 ∨ k = 6 ∨ k = 7) : Right (.mk k T lo hi num []) g g
  | many (k : Int) (T : Nat → Nat) (lo hi num : Int) (kids : List PN) (g g' : Nat) (hk : k = 2 ∨ k = 3) (h2 : 1 < kids.length) (h4 : kids.length ≤ 4096) (h : RightL kids g g') : Right (.mk k T lo hi num kids) g g'
  | group (T : Nat → Nat) (lo hi : Int) (n : PN) (g g' : Nat) (h : RightL [n] (g + 1) g') : Right (.mk 5 T lo hi ((g + 1 : Nat) : Int) [n]) g g'
  | rep (T : Nat → Nat) (lo hi num : Int) (n : PN) (g g' : Nat) (h0 : 0 ≤ lo) (h1 : lo ≤ 20) (h2 : hi ≤ 20) (h3 : hi = -1 ∨ lo ≤ hi) (hk : n.kind = 1 ∨ n.kind = 5) (h : RightL [n] g g') : Right (.mk 4 T lo hi num [n]) g g'
inductive RightL : List PN → Nat → Nat → Prop
  | nil (g : Nat) : RightL [] g g
  | cons {n : PN} {r : List PN} {g g1 g2 : Nat} (h : Right n g g1) (k : RightL r g1 g2) : RightL (n :: r) g g2
end
theorem RightL.one {n : PN} {g g' : Nat} (h : Right n g g') : RightL [n] g g' := .cons h (.nil _)
theorem RightL.of_one {n : PN} {g g' : Nat} (h : RightL [n] g g') : Right n g g' := by
  cases h with
  | cons h k => cases k; exact h
theorem RightL.push : ∀ {l : List PN} {n : PN} {g g1 g2 : Nat}, RightL l g g1 → Right n g1 g2 → RightL (l ++ [n]) g g2
  | [], _, _, _, _, h, k => by
    cases h
    exact .one k
  | _ :: _, _, _, _, _, h, k => by
    cases h with
    | cons h1 h2 => exact .cons h1 (RightL.push h2 k)
/-- A token's numbers, where it repeats. -/
def TokOk (t : Tok) : Prop := t.kind = 7 → 0 ≤ t.lo ∧ t.lo ≤ 20 ∧ t.hi ≤ 20 ∧ (t.hi = -1 ∨ t.lo ≤ t.hi)
def ToksOk (l : List Tok) : Prop := ∀ t ∈ l, TokOk t
theorem ToksOk.drop {l : List Tok} (h : ToksOk l) (k : Nat) : ToksOk (l.drop k) := fun t ht => h t (List.mem_of_mem_drop ht)
theorem ToksOk.tail {t : Tok} {l : List Tok} (h : ToksOk (t :: l)) : ToksOk l := fun u hu => h u (List.mem_cons_of_mem _ hu)
theorem TokOk.of {t : Tok} (h : t.kind ≠ 7) : TokOk t := fun h7 => absurd h7 h
theorem numP_le (l : List UInt8) (h : (numP l).2 = true) : (numP l).1 ≤ 20 := by
  unfold numP at h ⊢
  split at h
  · cases h
  · rename_i h1
    rw [if_neg h1]
    split at h
    · cases h
    · rename_i n hn
      simp only
      exact of_decide_eq_true h
theorem rep_ok (a b : Int) (h : 0 ≤ a ∧ a ≤ 20 ∧ b ≤ 20 ∧ (b = -1 ∨ a ≤ b)) : TokOk (repT a b) := fun _ => h
theorem intT_ok (m : Nat) (close r : List UInt8) : TokOk (intT m close r).1 := by
  unfold intT
  simp only
  split
  · exact .of (by decide)
  · rename_i h1
    have hlo : (numP (Lib.cut (Lib.cut r close).1 [44]).1).2 = true := by
      cases h : (numP (Lib.cut (Lib.cut r close).1 [44]).1).2 with
      | true => rfl
      | false => exact absurd (.inr h) h1
    have h20 := numP_le _ hlo
    split
    · exact rep_ok _ _ ⟨by omega, by omega, by omega, .inr (Int.le_refl _)⟩
    · split
      · exact rep_ok _ _ ⟨by omega, by omega, by omega, .inl rfl⟩
      · split
        · exact .of (by decide)
        · rename_i h2
          have hhi : (numP (Lib.cut (Lib.cut r close).1 [44]).2.1).2 = true := by
            cases h : (numP (Lib.cut (Lib.cut r close).1 [44]).2.1).2 with
            | true => rfl
            | false => exact absurd (.inl h) h2
          have h21 := numP_le _ hhi
          have h3 : ¬ (numP (Lib.cut (Lib.cut r close).1 [44]).2.1).1 < (numP (Lib.cut (Lib.cut r close).1 [44]).1).1 := fun h => h2 (.inr h)
          exact rep_ok _ _ ⟨by omega, by omega, by omega, .inr (by omega)⟩
theorem escT_ok (them r : List UInt8) : TokOk (escT them r).1 := by
  unfold escT
  split
  · exact .of (by decide)
  · split
    · exact .of (by decide)
    · split
      · exact .of (by decide)
      · exact .of (by simp only [oneT]; decide)
theorem brkT_ok (bk : BkF) (r : List UInt8) : TokOk (brkT bk r).1 := by
  unfold brkT
  split
  · exact .of (by decide)
  · exact .of (by simp only; decide)
theorem of_ok (k : Int) (h : k ≠ 7) : TokOk (Tok.of k) := .of h
theorem oneT_ok (c : Nat) : TokOk (oneT c) := .of (by simp only [oneT]; decide)
theorem anyT_ok : TokOk anyT := .of (by simp only [anyT]; decide)
theorem ok_ite {p : Prop} [Decidable p] {a b : Tok × Nat} (ha : TokOk a.1) (hb : TokOk b.1) : TokOk (if p then a else b).1 := by
  by_cases h : p
  · rw [if_pos h]; exact ha
  · rw [if_neg h]; exact hb
theorem extT_ok (bk : BkF) (l : List UInt8) : TokOk (extT bk l).1 := by
  unfold extT
  split
  · exact .of (by decide)
  · repeat' first | exact anyT_ok | exact brkT_ok _ _ | exact escT_ok _ _ | exact intT_ok _ _ _ | exact oneT_ok _ | exact of_ok _ (by decide) | (refine rep_ok _ _ ?_; decide) | refine ok_ite ?_ ?_
theorem basT_ok (bk : BkF) (ah : Int) (l : List UInt8) : TokOk (basT bk ah l).1 := by
  unfold basT
  split
  · exact .of (by decide)
  · unfold basEsc
    repeat' split
    all_goals first | exact anyT_ok | exact brkT_ok _ _ | exact escT_ok _ _ | exact intT_ok _ _ _ | exact oneT_ok _ | exact of_ok _ (by decide) | (refine rep_ok _ _ ?_; decide)
theorem firstT_ok (bk : BkF) (ext : Bool) (ah : Int) (l : List UInt8) : TokOk (firstT bk ext ah l).1 := by
  unfold firstT
  split
  · exact extT_ok _ _
  · exact basT_ok _ _ _
theorem toksF_ok (bk : BkF) (ext : Bool) : ∀ (k : Nat) (ah : Int) (l : List UInt8) (ts : List Tok), toksF bk ext k ah l = some ts → ToksOk ts
  | 0, ah, [], ts, h => by simp [toksF] at h; subst h; intro t ht; cases ht
  | 0, ah, c :: r, ts, h => by simp [toksF] at h
  | k + 1, ah, [], ts, h => by simp [toksF] at h; subst h; intro t ht; cases ht
  | k + 1, ah, c :: r, ts, h => by
    simp only [toksF] at h
    split at h
    · cases h
    · obtain ⟨us, hu, rfl⟩ := Option.map_eq_some_iff.1 h
      have ih := toksF_ok bk ext k _ _ us hu
      intro t ht
      rcases List.mem_cons.1 ht with rfl | ht
      · exact firstT_ok bk ext ah (c :: r)
      · exact ih t ht
theorem toksF_le {bk : BkF} {ext : Bool} : ∀ (k : Nat) (ah : Int) (l : List UInt8) (ts : List Tok), toksF bk ext k ah l = some ts → ts.length ≤ k
  | 0, ah, [], ts, h => by simp [toksF] at h; subst h; simp
  | 0, ah, c :: r, ts, h => by simp [toksF] at h
  | k + 1, ah, [], ts, h => by simp [toksF] at h; subst h; simp
  | k + 1, ah, c :: r, ts, h => by
    simp only [toksF] at h
    split at h
    · cases h
    · obtain ⟨us, hu, rfl⟩ := Option.map_eq_some_iff.1 h
      have := toksF_le k _ _ us hu
      simp only [List.length_cons]
      omega
theorem right_join {k : Int} (hk : k = 2 ∨ k = 3) {l : List PN} {n : PN} {g g' : Nat} (h4 : l.length + 1 ≤ 4096) (h : RightL (l ++ [n]) g g') : Right (joinK k (l ++ [n])) g g' := by
  unfold joinK
  split
  · rename_i x e
    rw [e] at h
    exact h.of_one
  · rename_i hne
    refine .many k noS 0 0 0 _ g g' hk ?_ (by rw [List.length_append]; exact h4) h
    cases l with
    | nil => exact absurd rfl (hne n)
    | cons a r => simp
theorem right_rep {n : PN} {g g' : Nat} {l : List Tok} (h : Right n g g') (hk : n.kind = 1 ∨ n.kind = 5) (hl : ToksOk l) : Right (repP n l).1 g g' ∧ ToksOk (repP n l).2 := by
  cases l with
  | nil => exact ⟨h, hl⟩
  | cons t r =>
    simp only [repP]
    split
    · rename_i h7
      obtain ⟨h0, h1, h2, h3⟩ := hl t (List.mem_cons_self ..) h7
      exact ⟨.rep noS t.lo t.hi 0 n g g' h0 h1 h2 h3 hk (.one h), hl.tail⟩
    · exact ⟨h, hl⟩
/-- What is parsed is right. -/
theorem right_parse : ∀ f : Nat,
    (∀ acc l g g0 n l1 g1, altP f acc l g = some (n, l1, g1) → acc.length + l.length ≤ 4096 → ToksOk l → RightL acc g0 g → g ≤ 9 → Right n g0 g1 ∧ ToksOk l1 ∧ g1 ≤ 9) ∧
    (∀ acc l g g0 n l1 g1, rowP f acc l g = some (n, l1, g1) → acc.length + l.length ≤ 4096 → ToksOk l → RightL acc g0 g → g ≤ 9 → Right n g0 g1 ∧ ToksOk l1 ∧ g1 ≤ 9) ∧
    (∀ l g n l1 g1, pieceP f l g = some (n, l1, g1) → l.length ≤ 4096 → ToksOk l → g ≤ 9 → Right n g g1 ∧ ToksOk l1 ∧ g1 ≤ 9) ∧
    (∀ l g n l1 g1, groupP f l g = some (n, l1, g1) → l.length ≤ 4096 → ToksOk l → g ≤ 9 → Right n g g1 ∧ n.kind = 5 ∧ ToksOk l1 ∧ g1 ≤ 9)
  | 0 => ⟨fun acc l g g0 n l1 g1 h => by simp [altP] at h, fun acc l g g0 n l1 g1 h => by simp [rowP] at h, fun l g n l1 g1 h => by simp [pieceP] at h, fun l g n l1 g1 h => by simp [groupP] at h⟩
  | f + 1 => by
    obtain ⟨ia, ir, ip, ig⟩ := right_parse f
    refine ⟨fun acc l g g0 n l1 g1 h hz ht ha hg => ?_, fun acc l g g0 n l1 g1 h hz ht ha hg => ?_, fun l g n l1 g1 h hz ht hg => ?_, fun l g n l1 g1 h hz ht hg => ?_⟩
    · simp only [altP] at h
      cases hr : rowP f [] l g with
      | none => rw [hr] at h; cases h
      | some x =>
        obtain ⟨m, l2, g2⟩ := x
        rw [hr] at h
        obtain ⟨h1, h2, h3⟩ := ir _ _ _ g _ _ _ hr (by simp only [List.length_nil]; omega) ht (.nil g) hg
        have hless := (parse_less f).2.1 _ _ _ _ _ _ hr
        simp only at h
        split at h
        · exact ia _ _ _ _ _ _ _ h (by simp only [List.length_append, List.length_drop, List.length_cons, List.length_nil]; omega) (h2.drop 1) (ha.push h1) h3
        · cases h
          exact ⟨right_join (.inr rfl) (by omega) (ha.push h1), h2, h3⟩
    · simp only [rowP] at h
      cases hr : pieceP f l g with
      | none => rw [hr] at h; cases h
      | some x =>
        obtain ⟨m, l2, g2⟩ := x
        rw [hr] at h
        obtain ⟨h1, h2, h3⟩ := ip _ _ _ _ _ hr (by omega) ht hg
        have hless := (parse_less f).2.2.1 _ _ _ _ _ hr
        simp only at h
        split at h
        · exact ir _ _ _ _ _ _ _ h (by simp only [List.length_append, List.length_cons, List.length_nil]; omega) h2 (ha.push h1) h3
        · cases h
          exact ⟨right_join (.inl rfl) (by omega) (ha.push h1), h2, h3⟩
    · cases l with
      | nil => simp [pieceP] at h
      | cons t r =>
        simp only [pieceP] at h
        split at h
        · cases h; exact ⟨.leaf 6 noS 0 0 0 g (.inr (.inl rfl)), ht.tail, hg⟩
        · split at h
          · cases h; exact ⟨.leaf 7 noS 0 0 0 g (.inr (.inr rfl)), ht.tail, hg⟩
          · split at h
            · cases h
              have := right_rep (.leaf 1 t.set 0 0 0 g (.inl rfl)) (.inl rfl) ht.tail
              exact ⟨this.1, this.2, hg⟩
            · split at h
              · cases hr : groupP f r g with
                | none => rw [hr] at h; cases h
                | some x =>
                  obtain ⟨m, l2, g2⟩ := x
                  rw [hr] at h
                  obtain ⟨h1, h2, h3, h4⟩ := ig _ _ _ _ _ hr (by simp only [List.length_cons] at hz; omega) ht.tail hg
                  cases h
                  have := right_rep h1 (.inr h2) h3
                  exact ⟨this.1, this.2, h4⟩
              · cases h
    · simp only [groupP] at h
      cases hr : altP f [] l (g + 1) with
      | none => rw [hr] at h; cases h
      | some x =>
        obtain ⟨m, l2, g2⟩ := x
        rw [hr] at h
        simp only at h
        split at h
        · cases h
        · rename_i hn
          obtain ⟨h1, h2, h3⟩ := ia _ _ _ (g + 1) _ _ _ hr (by simp only [List.length_nil]; omega) ht (.nil _) (by
            cases Nat.lt_or_ge 9 (g + 1) with
            | inl h => exact absurd (.inl h) hn
            | inr h => exact h)
          cases h
          exact ⟨.group noS 0 0 m g _ (.one h1), rfl, h2.drop 1, h3⟩
theorem right_of {bk : BkF} {ext : Bool} {l : List UInt8} {n : PN} (h : parseP bk ext l = some n) : 0 < l.length ∧ l.length ≤ 200 ∧ ∃ g, g ≤ 9 ∧ Right n 0 g := by
  unfold parseP at h
  split at h
  · cases h
  · rename_i hz
    cases ht : toksF bk ext 200 4 l with
    | none => rw [ht] at h; cases h
    | some ts =>
      rw [ht] at h
      simp only at h
      cases ha : altP 1001 [] ts 0 with
      | none => rw [ha] at h; cases h
      | some x =>
        obtain ⟨m, r, g⟩ := x
        rw [ha] at h
        simp only at h
        split at h
        · cases h
          obtain ⟨h1, _, h3⟩ := (right_parse 1001).1 _ _ _ 0 _ _ _ ha (by have := toksF_le 200 4 l ts ht; simp only [List.length_nil]; omega) (toksF_ok _ _ _ _ _ _ ht) (.nil _) (Nat.zero_le _)
          refine ⟨?_, by omega, g, h3, h1⟩
          cases l with
          | nil =>
            have e : ts = [] := by
              rw [show toksF bk ext 200 4 [] = some [] from rfl] at ht
              cases ht
              rfl
            subst e
            have := ((parse_less 1001).1 [] [] 0 _ _ _ ha).1
            simp at this
          | cons c q => simp
        · cases h
end Go.Proofs.Ytcidkfajembfhaa

namespace Go.Proofs.Ytcidkfajembfhaa
open Go.RowKit Go.Deep

def RightW (P : PN → Nat → Nat → Prop) : List PN → Nat → Nat → Prop
  | [], g, g' => g = g'
  | n :: r, g, g' => ∃ g1, P n g g1 ∧ RightW P r g1 g'
def RightR (g' : Nat) (w : World) (e : Ending) (w' : World) : Prop := e = .returned (.tuple #[.int .i64 (g' : Int), .bool true]) ∧ Below w.heap.size w w'
/-- What the walk says of a tree. -/
def WalkR (t : PN) (g g' : Nat) : Prop := g ≤ g' ∧ (g' ≤ 1000 → ∀ (S : Nat → Prop) (w : World) (y : NV), IsP S w t y → Calls Try.prog 18 #[y.v, .int .i64 (g : Int)] w (RightR g' w))
theorem RightW.mono : ∀ {l : List PN} {g g' : Nat}, RightW WalkR l g g' → g ≤ g'
  | [], _, _, h => by cases h; exact Nat.le_refl _
  | _ :: _, _, _, ⟨_, h1, h2⟩ => Nat.le_trans h1.1 (RightW.mono h2)
/-- Where a round of the law's loop begins. -/
def RRel (w : World) (kids : List PN) (o : Obj) (g' : Nat) (gv okv iv : Value) (wr : World) : Prop := ∃ i gi : Nat, iv = .int .i64 (i : Int) ∧ okv = .bool true ∧ gv = .int .i64 (gi : Int) ∧ i ≤ kids.length ∧ RightW WalkR (kids.drop i) gi g' ∧ Below (w.heap.size + 1) (w.alloc o) wr
theorem off_at {S : Nat → Prop} {w : World} {A : Option Addr} {xs : List NV} (h : RawOff S w A (nsV xs)) (h0 : xs ≠ []) : ∃ b o, A = some ⟨b, o, none⟩ ∧ b < w.heap.size ∧ ∀ (i : Nat) (x : NV), xs[i]? = some x →
    (w.cell? ⟨b, o + i * 9, none⟩ = some (.int .i64 x.kind) ∧ w.cell? ⟨b, o + i * 9 + 1, none⟩ = some (.int .u64 (x.set 0)) ∧ w.cell? ⟨b, o + i * 9 + 2, none⟩ = some (.int .u64 (x.set 1)) ∧ w.cell? ⟨b, o + i * 9 + 3, none⟩ = some (.int .u64 (x.set 2)) ∧ w.cell? ⟨b, o + i * 9 + 4, none⟩ = some (.int .u64 (x.set 3)) ∧ w.cell? ⟨b, o + i * 9 + 5, none⟩ = some (.int .i64 x.lo) ∧ w.cell? ⟨b, o + i * 9 + 6, none⟩ = some (.int .i64 x.hi) ∧ w.cell? ⟨b, o + i * 9 + 7, none⟩ = some (.int .i64 x.num) ∧ w.cell? ⟨b, o + i * 9 + 8, none⟩ = some (.slice x.A x.n x.c)) := by
  rcases h with h | ⟨b, o, e, _, hr⟩
  · cases xs with
    | nil => exact absurd rfl h0
    | cons a r => cases h
  · have hb : b < w.heap.size := by
      cases xs with
      | nil => exact absurd rfl h0
      | cons a r => exact World.block_lt_of_cell? w _ (hr 0 _ rfl)
    refine ⟨b, o, e, hb, fun i x hx => ?_⟩
    have hg : ∀ (j : Nat) (v : Value), x.cells[j]? = some v → w.cell? ⟨b, o + i * 9 + j, none⟩ = some v := fun j v hv => by
      rw [Nat.add_assoc]
      exact hr _ _ (nsV_at i x hx j v hv)
    exact ⟨hg 0 _ rfl, hg 1 _ rfl, hg 2 _ rfl, hg 3 _ rfl, hg 4 _ rfl, hg 5 _ rfl, hg 6 _ rfl, hg 7 _ rfl, hg 8 _ rfl⟩
set_option maxRecDepth 100000 in
set_option maxHeartbeats 1000000 in
theorem right_row {T : Nat → Nat} {lo hi num : Int} {kids : List PN} {g g' : Nat} (h2 : 1 < kids.length) (_hn4 : kids.length ≤ 4096) (hw : RightW WalkR kids g g') (hg' : g' ≤ 1000) {S : Nat → Prop} {w : World} {xs : List NV} {A : Option Addr} {c : Nat} (hl : xs.length = kids.length) (_hc : kids.length ≤ c) (hr : RawOff S w A (nsV xs)) (hk : ∀ (i : Nat) (t : PN) (x : NV), kids[i]? = some t → xs[i]? = some x → IsP S w t x) : Calls Try.prog 18 #[.agg #[.int .i64 2, .int .u64 (T 0), .int .u64 (T 1), .int .u64 (T 2), .int .u64 (T 3), .int .i64 lo, .int .i64 hi, .int .i64 num, .slice A kids.length c], .int .i64 (g : Int)] w (RightR g' w) := by
  have HW := Lib.hid hw
  have HR := Lib.hid (And.intro hl (And.intro hr hk))
  have HG := Lib.hid hg'
  obtain ⟨N, hN⟩ : ∃ N, N = kids.length := ⟨_, rfl⟩
  have HN := Lib.hid hN
  have hN4 : N ≤ 4096 := by omega
  have d2 : decide ((N : Int) > 1) = true := decide_eq_true (by omega)
  rw [← hN]
  clear hw hl hr hk _hc hg' hN _hn4
  go_enter Try.func18, Try.ntmps18
  go_wp2_with fail
  go_loopw [1, 6, 7] (fun gv okv iv wr => RRel w kids (.cells #[.int .i64 2, .int .u64 (T 0), .int .u64 (T 1), .int .u64 (T 2), .int .u64 (T 3), .int .i64 lo, .int .i64 hi, .int .i64 num, .slice A N c] 29) g' gv okv iv wr) (fun _ _ iv _ => kids.length - (intOf iv).toNat)
  case atStart => exact ⟨0, g, rfl, rfl, rfl, Nat.zero_le _, HW.out, Below.refl _ _⟩
  case round =>
    obtain ⟨i, gi, rfl, rfl, rfl, hi', hrw, hbr⟩ := hrel
    have hb' := (bA w _).trans (hbr.mono (Nat.le_succ _))
    obtain ⟨⟨k0, k1, k2, k3, k4, k5, k6, k7, k8⟩, _⟩ := box9 (Below.obj hbr (new_obj w _) (Nat.lt_succ_self _))
    by_cases hlt : i < N
    · obtain ⟨t, ht⟩ : ∃ t, kids[i]? = some t := ⟨kids[i]'(by rw [← HN.out]; exact hlt), List.getElem?_eq_getElem _⟩
      obtain ⟨x, hx⟩ : ∃ x, xs[i]? = some x := ⟨xs[i]'(by rw [HR.out.1, ← HN.out]; exact hlt), List.getElem?_eq_getElem _⟩
      have hdrop : kids.drop i = t :: kids.drop (i + 1) := by
        obtain ⟨hh, e⟩ := List.getElem?_eq_some_iff.1 ht
        rw [List.drop_eq_getElem_cons hh, e]
      rw [hdrop] at hrw
      obtain ⟨g1, hP, hrest⟩ := hrw
      obtain ⟨b, o, he, hbl, hcs⟩ := off_at HR.out.2.1 (by rintro rfl; simp at hx)
      cases he
      obtain ⟨m0, m1, m2, m3, m4, m5, m6, m7, m8⟩ := hcs i x hx
      have n0 := (hb'.cell hbl).trans m0
      have n1 := (hb'.cell hbl).trans m1
      have n2 := (hb'.cell hbl).trans m2
      have n3 := (hb'.cell hbl).trans m3
      have n4 := (hb'.cell hbl).trans m4
      have n5 := (hb'.cell hbl).trans m5
      have n6 := (hb'.cell hbl).trans m6
      have n7 := (hb'.cell hbl).trans m7
      have n8 := (hb'.cell hbl).trans m8
      have hcall := hP.2 (Nat.le_trans hrest.mono HG.out) S wr x ((HR.out.2.2 i t x ht hx).stays hb')
      rw [NV.v_eq] at hcall
      have HC := Lib.hid hcall
      have HRE := Lib.hid hrest
      have HBR := Lib.hid hbr
      have hiI : (i : Int) < (N : Int) := by omega
      have hi0 : (0 : Int) ≤ (i : Int) := by omega
      have hi4 : i < 4096 := by omega
      clear hcall hrest hbr hP hcs m0 m1 m2 m3 m4 m5 m6 m7 m8 hb' hdrop ht hx
      go_wp2_with fail
      go_at_call 18
      refine HC.out.mono ?_
      rintro e w5 ⟨rfl, hb5⟩
      have HB5 := Lib.hid hb5
      clear hb5
      go_wp2_with fail
      go_roundw
      case rel => exact ⟨i + 1, g1, by go_num, rfl, rfl, by have := HN.out; omega, HRE.out, HBR.out.trans (HB5.out.mono (by have := HBR.out.size; rw [World.size_alloc] at this; exact this))⟩
      case measure => have := HN.out; simp [intOf]; omega
    · have he : i = N := by rw [← HN.out] at hi'; omega
      subst he
      have hiI : ¬ (i : Int) < (i : Int) := by omega
      have hg : gi = g' := by
        rw [HN.out, List.drop_length] at hrw
        exact hrw
      subst hg
      have HB := Lib.hid hb'
      clear hbr hb' hrw
      go_wp2_with fail
      exact bodyPost_ret (v := .tuple #[.int .i64 (gi : Int), .bool true]) (by simp [results, Try.results18, go_sem]) rfl ⟨rfl, HB.out⟩
set_option maxRecDepth 100000 in
set_option maxHeartbeats 1000000 in
theorem right_either {T : Nat → Nat} {lo hi num : Int} {kids : List PN} {g g' : Nat} (h2 : 1 < kids.length) (_hn4 : kids.length ≤ 4096) (hw : RightW WalkR kids g g') (hg' : g' ≤ 1000) {S : Nat → Prop} {w : World} {xs : List NV} {A : Option Addr} {c : Nat} (hl : xs.length = kids.length) (_hc : kids.length ≤ c) (hr : RawOff S w A (nsV xs)) (hk : ∀ (i : Nat) (t : PN) (x : NV), kids[i]? = some t → xs[i]? = some x → IsP S w t x) : Calls Try.prog 18 #[.agg #[.int .i64 3, .int .u64 (T 0), .int .u64 (T 1), .int .u64 (T 2), .int .u64 (T 3), .int .i64 lo, .int .i64 hi, .int .i64 num, .slice A kids.length c], .int .i64 (g : Int)] w (RightR g' w) := by
  have HW := Lib.hid hw
  have HR := Lib.hid (And.intro hl (And.intro hr hk))
  have HG := Lib.hid hg'
  obtain ⟨N, hN⟩ : ∃ N, N = kids.length := ⟨_, rfl⟩
  have HN := Lib.hid hN
  have hN4 : N ≤ 4096 := by omega
  have d2 : decide ((N : Int) > 1) = true := decide_eq_true (by omega)
  rw [← hN]
  clear hw hl hr hk _hc hg' hN _hn4
  go_enter Try.func18, Try.ntmps18
  go_wp2_with fail
  go_loopw [1, 6, 7] (fun gv okv iv wr => RRel w kids (.cells #[.int .i64 3, .int .u64 (T 0), .int .u64 (T 1), .int .u64 (T 2), .int .u64 (T 3), .int .i64 lo, .int .i64 hi, .int .i64 num, .slice A N c] 29) g' gv okv iv wr) (fun _ _ iv _ => kids.length - (intOf iv).toNat)
  case atStart => exact ⟨0, g, rfl, rfl, rfl, Nat.zero_le _, HW.out, Below.refl _ _⟩
  case round =>
    obtain ⟨i, gi, rfl, rfl, rfl, hi', hrw, hbr⟩ := hrel
    have hb' := (bA w _).trans (hbr.mono (Nat.le_succ _))
    obtain ⟨⟨k0, k1, k2, k3, k4, k5, k6, k7, k8⟩, _⟩ := box9 (Below.obj hbr (new_obj w _) (Nat.lt_succ_self _))
    by_cases hlt : i < N
    · obtain ⟨t, ht⟩ : ∃ t, kids[i]? = some t := ⟨kids[i]'(by rw [← HN.out]; exact hlt), List.getElem?_eq_getElem _⟩
      obtain ⟨x, hx⟩ : ∃ x, xs[i]? = some x := ⟨xs[i]'(by rw [HR.out.1, ← HN.out]; exact hlt), List.getElem?_eq_getElem _⟩
      have hdrop : kids.drop i = t :: kids.drop (i + 1) := by
        obtain ⟨hh, e⟩ := List.getElem?_eq_some_iff.1 ht
        rw [List.drop_eq_getElem_cons hh, e]
      rw [hdrop] at hrw
      obtain ⟨g1, hP, hrest⟩ := hrw
      obtain ⟨b, o, he, hbl, hcs⟩ := off_at HR.out.2.1 (by rintro rfl; simp at hx)
      cases he
      obtain ⟨m0, m1, m2, m3, m4, m5, m6, m7, m8⟩ := hcs i x hx
      have n0 := (hb'.cell hbl).trans m0
      have n1 := (hb'.cell hbl).trans m1
      have n2 := (hb'.cell hbl).trans m2
      have n3 := (hb'.cell hbl).trans m3
      have n4 := (hb'.cell hbl).trans m4
      have n5 := (hb'.cell hbl).trans m5
      have n6 := (hb'.cell hbl).trans m6
      have n7 := (hb'.cell hbl).trans m7
      have n8 := (hb'.cell hbl).trans m8
      have hcall := hP.2 (Nat.le_trans hrest.mono HG.out) S wr x ((HR.out.2.2 i t x ht hx).stays hb')
      rw [NV.v_eq] at hcall
      have HC := Lib.hid hcall
      have HRE := Lib.hid hrest
      have HBR := Lib.hid hbr
      have hiI : (i : Int) < (N : Int) := by omega
      have hi0 : (0 : Int) ≤ (i : Int) := by omega
      have hi4 : i < 4096 := by omega
      clear hcall hrest hbr hP hcs m0 m1 m2 m3 m4 m5 m6 m7 m8 hb' hdrop ht hx
      go_wp2_with fail
      go_at_call 18
      refine HC.out.mono ?_
      rintro e w5 ⟨rfl, hb5⟩
      have HB5 := Lib.hid hb5
      clear hb5
      go_wp2_with fail
      go_roundw
      case rel => exact ⟨i + 1, g1, by go_num, rfl, rfl, by have := HN.out; omega, HRE.out, HBR.out.trans (HB5.out.mono (by have := HBR.out.size; rw [World.size_alloc] at this; exact this))⟩
      case measure => have := HN.out; simp [intOf]; omega
    · have he : i = N := by rw [← HN.out] at hi'; omega
      subst he
      have hiI : ¬ (i : Int) < (i : Int) := by omega
      have hg : gi = g' := by
        rw [HN.out, List.drop_length] at hrw
        exact hrw
      subst hg
      have HB := Lib.hid hb'
      clear hbr hb' hrw
      go_wp2_with fail
      exact bodyPost_ret (v := .tuple #[.int .i64 (gi : Int), .bool true]) (by simp [results, Try.results18, go_sem]) rfl ⟨rfl, HB.out⟩
set_option maxRecDepth 100000 in
set_option maxHeartbeats 1000000 in
theorem right_one {T : Nat → Nat} {lo hi num : Int} {kids : List PN} {g g' : Nat} (h0 : kids.length = 0) (_hn4 : kids.length ≤ 4096) (hw : RightW WalkR kids g g') (hg' : g' ≤ 1000) {S : Nat → Prop} {w : World} {xs : List NV} {A : Option Addr} {c : Nat} (hl : xs.length = kids.length) (_hc : kids.length ≤ c) (hr : RawOff S w A (nsV xs)) (hk : ∀ (i : Nat) (t : PN) (x : NV), kids[i]? = some t → xs[i]? = some x → IsP S w t x) : Calls Try.prog 18 #[.agg #[.int .i64 1, .int .u64 (T 0), .int .u64 (T 1), .int .u64 (T 2), .int .u64 (T 3), .int .i64 lo, .int .i64 hi, .int .i64 num, .slice A kids.length c], .int .i64 (g : Int)] w (RightR g' w) := by
  have HW := Lib.hid hw
  have HR := Lib.hid (And.intro hl (And.intro hr hk))
  have HG := Lib.hid hg'
  obtain ⟨N, hN⟩ : ∃ N, N = kids.length := ⟨_, rfl⟩
  have HN := Lib.hid hN
  have hN4 : N ≤ 4096 := by omega
  have d0 : ((N : Int) == 0) = true := by rw [hN, h0]; rfl
  rw [← hN]
  clear hw hl hr hk _hc hg' hN _hn4
  go_enter Try.func18, Try.ntmps18
  go_wp2_with fail
  go_loopw [1, 6, 7] (fun gv okv iv wr => RRel w kids (.cells #[.int .i64 1, .int .u64 (T 0), .int .u64 (T 1), .int .u64 (T 2), .int .u64 (T 3), .int .i64 lo, .int .i64 hi, .int .i64 num, .slice A N c] 29) g' gv okv iv wr) (fun _ _ iv _ => kids.length - (intOf iv).toNat)
  case atStart => exact ⟨0, g, rfl, rfl, rfl, Nat.zero_le _, HW.out, Below.refl _ _⟩
  case round =>
    obtain ⟨i, gi, rfl, rfl, rfl, hi', hrw, hbr⟩ := hrel
    have hb' := (bA w _).trans (hbr.mono (Nat.le_succ _))
    obtain ⟨⟨k0, k1, k2, k3, k4, k5, k6, k7, k8⟩, _⟩ := box9 (Below.obj hbr (new_obj w _) (Nat.lt_succ_self _))
    by_cases hlt : i < N
    · obtain ⟨t, ht⟩ : ∃ t, kids[i]? = some t := ⟨kids[i]'(by rw [← HN.out]; exact hlt), List.getElem?_eq_getElem _⟩
      obtain ⟨x, hx⟩ : ∃ x, xs[i]? = some x := ⟨xs[i]'(by rw [HR.out.1, ← HN.out]; exact hlt), List.getElem?_eq_getElem _⟩
      have hdrop : kids.drop i = t :: kids.drop (i + 1) := by
        obtain ⟨hh, e⟩ := List.getElem?_eq_some_iff.1 ht
        rw [List.drop_eq_getElem_cons hh, e]
      rw [hdrop] at hrw
      obtain ⟨g1, hP, hrest⟩ := hrw
      obtain ⟨b, o, he, hbl, hcs⟩ := off_at HR.out.2.1 (by rintro rfl; simp at hx)
      cases he
      obtain ⟨m0, m1, m2, m3, m4, m5, m6, m7, m8⟩ := hcs i x hx
      have n0 := (hb'.cell hbl).trans m0
      have n1 := (hb'.cell hbl).trans m1
      have n2 := (hb'.cell hbl).trans m2
      have n3 := (hb'.cell hbl).trans m3
      have n4 := (hb'.cell hbl).trans m4
      have n5 := (hb'.cell hbl).trans m5
      have n6 := (hb'.cell hbl).trans m6
      have n7 := (hb'.cell hbl).trans m7
      have n8 := (hb'.cell hbl).trans m8
      have hcall := hP.2 (Nat.le_trans hrest.mono HG.out) S wr x ((HR.out.2.2 i t x ht hx).stays hb')
      rw [NV.v_eq] at hcall
      have HC := Lib.hid hcall
      have HRE := Lib.hid hrest
      have HBR := Lib.hid hbr
      have hiI : (i : Int) < (N : Int) := by omega
      have hi0 : (0 : Int) ≤ (i : Int) := by omega
      have hi4 : i < 4096 := by omega
      clear hcall hrest hbr hP hcs m0 m1 m2 m3 m4 m5 m6 m7 m8 hb' hdrop ht hx
      go_wp2_with fail
      go_at_call 18
      refine HC.out.mono ?_
      rintro e w5 ⟨rfl, hb5⟩
      have HB5 := Lib.hid hb5
      clear hb5
      go_wp2_with fail
      go_roundw
      case rel => exact ⟨i + 1, g1, by go_num, rfl, rfl, by have := HN.out; omega, HRE.out, HBR.out.trans (HB5.out.mono (by have := HBR.out.size; rw [World.size_alloc] at this; exact this))⟩
      case measure => have := HN.out; simp [intOf]; omega
    · have he : i = N := by rw [← HN.out] at hi'; omega
      subst he
      have hiI : ¬ (i : Int) < (i : Int) := by omega
      have hg : gi = g' := by
        rw [HN.out, List.drop_length] at hrw
        exact hrw
      subst hg
      have HB := Lib.hid hb'
      clear hbr hb' hrw
      go_wp2_with fail
      exact bodyPost_ret (v := .tuple #[.int .i64 (gi : Int), .bool true]) (by simp [results, Try.results18, go_sem]) rfl ⟨rfl, HB.out⟩
set_option maxRecDepth 100000 in
set_option maxHeartbeats 1000000 in
theorem right_begin {T : Nat → Nat} {lo hi num : Int} {kids : List PN} {g g' : Nat} (h0 : kids.length = 0) (_hn4 : kids.length ≤ 4096) (hw : RightW WalkR kids g g') (hg' : g' ≤ 1000) {S : Nat → Prop} {w : World} {xs : List NV} {A : Option Addr} {c : Nat} (hl : xs.length = kids.length) (_hc : kids.length ≤ c) (hr : RawOff S w A (nsV xs)) (hk : ∀ (i : Nat) (t : PN) (x : NV), kids[i]? = some t → xs[i]? = some x → IsP S w t x) : Calls Try.prog 18 #[.agg #[.int .i64 6, .int .u64 (T 0), .int .u64 (T 1), .int .u64 (T 2), .int .u64 (T 3), .int .i64 lo, .int .i64 hi, .int .i64 num, .slice A kids.length c], .int .i64 (g : Int)] w (RightR g' w) := by
  have HW := Lib.hid hw
  have HR := Lib.hid (And.intro hl (And.intro hr hk))
  have HG := Lib.hid hg'
  obtain ⟨N, hN⟩ : ∃ N, N = kids.length := ⟨_, rfl⟩
  have HN := Lib.hid hN
  have hN4 : N ≤ 4096 := by omega
  have d0 : ((N : Int) == 0) = true := by rw [hN, h0]; rfl
  rw [← hN]
  clear hw hl hr hk _hc hg' hN _hn4
  go_enter Try.func18, Try.ntmps18
  go_wp2_with fail
  go_loopw [1, 6, 7] (fun gv okv iv wr => RRel w kids (.cells #[.int .i64 6, .int .u64 (T 0), .int .u64 (T 1), .int .u64 (T 2), .int .u64 (T 3), .int .i64 lo, .int .i64 hi, .int .i64 num, .slice A N c] 29) g' gv okv iv wr) (fun _ _ iv _ => kids.length - (intOf iv).toNat)
  case atStart => exact ⟨0, g, rfl, rfl, rfl, Nat.zero_le _, HW.out, Below.refl _ _⟩
  case round =>
    obtain ⟨i, gi, rfl, rfl, rfl, hi', hrw, hbr⟩ := hrel
    have hb' := (bA w _).trans (hbr.mono (Nat.le_succ _))
    obtain ⟨⟨k0, k1, k2, k3, k4, k5, k6, k7, k8⟩, _⟩ := box9 (Below.obj hbr (new_obj w _) (Nat.lt_succ_self _))
    by_cases hlt : i < N
    · obtain ⟨t, ht⟩ : ∃ t, kids[i]? = some t := ⟨kids[i]'(by rw [← HN.out]; exact hlt), List.getElem?_eq_getElem _⟩
      obtain ⟨x, hx⟩ : ∃ x, xs[i]? = some x := ⟨xs[i]'(by rw [HR.out.1, ← HN.out]; exact hlt), List.getElem?_eq_getElem _⟩
      have hdrop : kids.drop i = t :: kids.drop (i + 1) := by
        obtain ⟨hh, e⟩ := List.getElem?_eq_some_iff.1 ht
        rw [List.drop_eq_getElem_cons hh, e]
      rw [hdrop] at hrw
      obtain ⟨g1, hP, hrest⟩ := hrw
      obtain ⟨b, o, he, hbl, hcs⟩ := off_at HR.out.2.1 (by rintro rfl; simp at hx)
      cases he
      obtain ⟨m0, m1, m2, m3, m4, m5, m6, m7, m8⟩ := hcs i x hx
      have n0 := (hb'.cell hbl).trans m0
      have n1 := (hb'.cell hbl).trans m1
      have n2 := (hb'.cell hbl).trans m2
      have n3 := (hb'.cell hbl).trans m3
      have n4 := (hb'.cell hbl).trans m4
      have n5 := (hb'.cell hbl).trans m5
      have n6 := (hb'.cell hbl).trans m6
      have n7 := (hb'.cell hbl).trans m7
      have n8 := (hb'.cell hbl).trans m8
      have hcall := hP.2 (Nat.le_trans hrest.mono HG.out) S wr x ((HR.out.2.2 i t x ht hx).stays hb')
      rw [NV.v_eq] at hcall
      have HC := Lib.hid hcall
      have HRE := Lib.hid hrest
      have HBR := Lib.hid hbr
      have hiI : (i : Int) < (N : Int) := by omega
      have hi0 : (0 : Int) ≤ (i : Int) := by omega
      have hi4 : i < 4096 := by omega
      clear hcall hrest hbr hP hcs m0 m1 m2 m3 m4 m5 m6 m7 m8 hb' hdrop ht hx
      go_wp2_with fail
      go_at_call 18
      refine HC.out.mono ?_
      rintro e w5 ⟨rfl, hb5⟩
      have HB5 := Lib.hid hb5
      clear hb5
      go_wp2_with fail
      go_roundw
      case rel => exact ⟨i + 1, g1, by go_num, rfl, rfl, by have := HN.out; omega, HRE.out, HBR.out.trans (HB5.out.mono (by have := HBR.out.size; rw [World.size_alloc] at this; exact this))⟩
      case measure => have := HN.out; simp [intOf]; omega
    · have he : i = N := by rw [← HN.out] at hi'; omega
      subst he
      have hiI : ¬ (i : Int) < (i : Int) := by omega
      have hg : gi = g' := by
        rw [HN.out, List.drop_length] at hrw
        exact hrw
      subst hg
      have HB := Lib.hid hb'
      clear hbr hb' hrw
      go_wp2_with fail
      exact bodyPost_ret (v := .tuple #[.int .i64 (gi : Int), .bool true]) (by simp [results, Try.results18, go_sem]) rfl ⟨rfl, HB.out⟩
set_option maxRecDepth 100000 in
set_option maxHeartbeats 1000000 in
theorem right_end {T : Nat → Nat} {lo hi num : Int} {kids : List PN} {g g' : Nat} (h0 : kids.length = 0) (_hn4 : kids.length ≤ 4096) (hw : RightW WalkR kids g g') (hg' : g' ≤ 1000) {S : Nat → Prop} {w : World} {xs : List NV} {A : Option Addr} {c : Nat} (hl : xs.length = kids.length) (_hc : kids.length ≤ c) (hr : RawOff S w A (nsV xs)) (hk : ∀ (i : Nat) (t : PN) (x : NV), kids[i]? = some t → xs[i]? = some x → IsP S w t x) : Calls Try.prog 18 #[.agg #[.int .i64 7, .int .u64 (T 0), .int .u64 (T 1), .int .u64 (T 2), .int .u64 (T 3), .int .i64 lo, .int .i64 hi, .int .i64 num, .slice A kids.length c], .int .i64 (g : Int)] w (RightR g' w) := by
  have HW := Lib.hid hw
  have HR := Lib.hid (And.intro hl (And.intro hr hk))
  have HG := Lib.hid hg'
  obtain ⟨N, hN⟩ : ∃ N, N = kids.length := ⟨_, rfl⟩
  have HN := Lib.hid hN
  have hN4 : N ≤ 4096 := by omega
  have d0 : ((N : Int) == 0) = true := by rw [hN, h0]; rfl
  rw [← hN]
  clear hw hl hr hk _hc hg' hN _hn4
  go_enter Try.func18, Try.ntmps18
  go_wp2_with fail
  go_loopw [1, 6, 7] (fun gv okv iv wr => RRel w kids (.cells #[.int .i64 7, .int .u64 (T 0), .int .u64 (T 1), .int .u64 (T 2), .int .u64 (T 3), .int .i64 lo, .int .i64 hi, .int .i64 num, .slice A N c] 29) g' gv okv iv wr) (fun _ _ iv _ => kids.length - (intOf iv).toNat)
  case atStart => exact ⟨0, g, rfl, rfl, rfl, Nat.zero_le _, HW.out, Below.refl _ _⟩
  case round =>
    obtain ⟨i, gi, rfl, rfl, rfl, hi', hrw, hbr⟩ := hrel
    have hb' := (bA w _).trans (hbr.mono (Nat.le_succ _))
    obtain ⟨⟨k0, k1, k2, k3, k4, k5, k6, k7, k8⟩, _⟩ := box9 (Below.obj hbr (new_obj w _) (Nat.lt_succ_self _))
    by_cases hlt : i < N
    · obtain ⟨t, ht⟩ : ∃ t, kids[i]? = some t := ⟨kids[i]'(by rw [← HN.out]; exact hlt), List.getElem?_eq_getElem _⟩
      obtain ⟨x, hx⟩ : ∃ x, xs[i]? = some x := ⟨xs[i]'(by rw [HR.out.1, ← HN.out]; exact hlt), List.getElem?_eq_getElem _⟩
      have hdrop : kids.drop i = t :: kids.drop (i + 1) := by
        obtain ⟨hh, e⟩ := List.getElem?_eq_some_iff.1 ht
        rw [List.drop_eq_getElem_cons hh, e]
      rw [hdrop] at hrw
      obtain ⟨g1, hP, hrest⟩ := hrw
      obtain ⟨b, o, he, hbl, hcs⟩ := off_at HR.out.2.1 (by rintro rfl; simp at hx)
      cases he
      obtain ⟨m0, m1, m2, m3, m4, m5, m6, m7, m8⟩ := hcs i x hx
      have n0 := (hb'.cell hbl).trans m0
      have n1 := (hb'.cell hbl).trans m1
      have n2 := (hb'.cell hbl).trans m2
      have n3 := (hb'.cell hbl).trans m3
      have n4 := (hb'.cell hbl).trans m4
      have n5 := (hb'.cell hbl).trans m5
      have n6 := (hb'.cell hbl).trans m6
      have n7 := (hb'.cell hbl).trans m7
      have n8 := (hb'.cell hbl).trans m8
      have hcall := hP.2 (Nat.le_trans hrest.mono HG.out) S wr x ((HR.out.2.2 i t x ht hx).stays hb')
      rw [NV.v_eq] at hcall
      have HC := Lib.hid hcall
      have HRE := Lib.hid hrest
      have HBR := Lib.hid hbr
      have hiI : (i : Int) < (N : Int) := by omega
      have hi0 : (0 : Int) ≤ (i : Int) := by omega
      have hi4 : i < 4096 := by omega
      clear hcall hrest hbr hP hcs m0 m1 m2 m3 m4 m5 m6 m7 m8 hb' hdrop ht hx
      go_wp2_with fail
      go_at_call 18
      refine HC.out.mono ?_
      rintro e w5 ⟨rfl, hb5⟩
      have HB5 := Lib.hid hb5
      clear hb5
      go_wp2_with fail
      go_roundw
      case rel => exact ⟨i + 1, g1, by go_num, rfl, rfl, by have := HN.out; omega, HRE.out, HBR.out.trans (HB5.out.mono (by have := HBR.out.size; rw [World.size_alloc] at this; exact this))⟩
      case measure => have := HN.out; simp [intOf]; omega
    · have he : i = N := by rw [← HN.out] at hi'; omega
      subst he
      have hiI : ¬ (i : Int) < (i : Int) := by omega
      have hg : gi = g' := by
        rw [HN.out, List.drop_length] at hrw
        exact hrw
      subst hg
      have HB := Lib.hid hb'
      clear hbr hb' hrw
      go_wp2_with fail
      exact bodyPost_ret (v := .tuple #[.int .i64 (gi : Int), .bool true]) (by simp [results, Try.results18, go_sem]) rfl ⟨rfl, HB.out⟩
set_option maxRecDepth 100000 in
set_option maxHeartbeats 1000000 in
theorem right_group {T : Nat → Nat} {lo hi _num : Int} {kids : List PN} {g g' : Nat} {m : Nat} (hm : m = g + 1) (h1 : kids.length = 1) (_hn4 : kids.length ≤ 4096) (hw : RightW WalkR kids m g') (hg' : g' ≤ 1000) {S : Nat → Prop} {w : World} {xs : List NV} {A : Option Addr} {c : Nat} (hl : xs.length = kids.length) (_hc : kids.length ≤ c) (hr : RawOff S w A (nsV xs)) (hk : ∀ (i : Nat) (t : PN) (x : NV), kids[i]? = some t → xs[i]? = some x → IsP S w t x) : Calls Try.prog 18 #[.agg #[.int .i64 5, .int .u64 (T 0), .int .u64 (T 1), .int .u64 (T 2), .int .u64 (T 3), .int .i64 lo, .int .i64 hi, .int .i64 (m : Int), .slice A kids.length c], .int .i64 (g : Int)] w (RightR g' w) := by
  have HW := Lib.hid hw
  have HR := Lib.hid (And.intro hl (And.intro hr hk))
  have HG := Lib.hid hg'
  obtain ⟨N, hN⟩ : ∃ N, N = kids.length := ⟨_, rfl⟩
  have HN := Lib.hid hN
  have hN4 : N ≤ 4096 := by omega
  have d1 : ((N : Int) == 1) = true := by rw [hN, h1]; rfl
  have hgg := hw.mono
  have hwr : wrap64 ((g : Int) + 1) = (m : Int) := by rw [IntWalk.wrap64_in _ (by omega)]; omega
  clear hgg h1 hm
  rw [← hN]
  clear hw hl hr hk _hc hg' hN _hn4
  go_enter Try.func18, Try.ntmps18
  go_wp2_with fail
  rw [hwr]
  go_loopw [1, 6, 7] (fun gv okv iv wr => RRel w kids (.cells #[.int .i64 5, .int .u64 (T 0), .int .u64 (T 1), .int .u64 (T 2), .int .u64 (T 3), .int .i64 lo, .int .i64 hi, .int .i64 (m : Int), .slice A N c] 29) g' gv okv iv wr) (fun _ _ iv _ => kids.length - (intOf iv).toNat)
  case atStart => exact ⟨0, m, rfl, rfl, rfl, Nat.zero_le _, HW.out, Below.refl _ _⟩
  case round =>
    obtain ⟨i, gi, rfl, rfl, rfl, hi', hrw, hbr⟩ := hrel
    have hb' := (bA w _).trans (hbr.mono (Nat.le_succ _))
    obtain ⟨⟨k0, k1, k2, k3, k4, k5, k6, k7, k8⟩, _⟩ := box9 (Below.obj hbr (new_obj w _) (Nat.lt_succ_self _))
    by_cases hlt : i < N
    · obtain ⟨t, ht⟩ : ∃ t, kids[i]? = some t := ⟨kids[i]'(by rw [← HN.out]; exact hlt), List.getElem?_eq_getElem _⟩
      obtain ⟨x, hx⟩ : ∃ x, xs[i]? = some x := ⟨xs[i]'(by rw [HR.out.1, ← HN.out]; exact hlt), List.getElem?_eq_getElem _⟩
      have hdrop : kids.drop i = t :: kids.drop (i + 1) := by
        obtain ⟨hh, e⟩ := List.getElem?_eq_some_iff.1 ht
        rw [List.drop_eq_getElem_cons hh, e]
      rw [hdrop] at hrw
      obtain ⟨g1, hP, hrest⟩ := hrw
      obtain ⟨b, o, he, hbl, hcs⟩ := off_at HR.out.2.1 (by rintro rfl; simp at hx)
      cases he
      obtain ⟨m0, m1, m2, m3, m4, m5, m6, m7, m8⟩ := hcs i x hx
      have n0 := (hb'.cell hbl).trans m0
      have n1 := (hb'.cell hbl).trans m1
      have n2 := (hb'.cell hbl).trans m2
      have n3 := (hb'.cell hbl).trans m3
      have n4 := (hb'.cell hbl).trans m4
      have n5 := (hb'.cell hbl).trans m5
      have n6 := (hb'.cell hbl).trans m6
      have n7 := (hb'.cell hbl).trans m7
      have n8 := (hb'.cell hbl).trans m8
      have hcall := hP.2 (Nat.le_trans hrest.mono HG.out) S wr x ((HR.out.2.2 i t x ht hx).stays hb')
      rw [NV.v_eq] at hcall
      have HC := Lib.hid hcall
      have HRE := Lib.hid hrest
      have HBR := Lib.hid hbr
      have hiI : (i : Int) < (N : Int) := by omega
      have hi0 : (0 : Int) ≤ (i : Int) := by omega
      have hi4 : i < 4096 := by omega
      clear hcall hrest hbr hP hcs m0 m1 m2 m3 m4 m5 m6 m7 m8 hb' hdrop ht hx
      go_wp2_with fail
      go_at_call 18
      refine HC.out.mono ?_
      rintro e w5 ⟨rfl, hb5⟩
      have HB5 := Lib.hid hb5
      clear hb5
      go_wp2_with fail
      go_roundw
      case rel => exact ⟨i + 1, g1, by go_num, rfl, rfl, by have := HN.out; omega, HRE.out, HBR.out.trans (HB5.out.mono (by have := HBR.out.size; rw [World.size_alloc] at this; exact this))⟩
      case measure => have := HN.out; simp [intOf]; omega
    · have he : i = N := by rw [← HN.out] at hi'; omega
      subst he
      have hiI : ¬ (i : Int) < (i : Int) := by omega
      have hg : gi = g' := by
        rw [HN.out, List.drop_length] at hrw
        exact hrw
      subst hg
      have HB := Lib.hid hb'
      clear hbr hb' hrw
      go_wp2_with fail
      exact bodyPost_ret (v := .tuple #[.int .i64 (gi : Int), .bool true]) (by simp [results, Try.results18, go_sem]) rfl ⟨rfl, HB.out⟩
end Go.Proofs.Ytcidkfajembfhaa

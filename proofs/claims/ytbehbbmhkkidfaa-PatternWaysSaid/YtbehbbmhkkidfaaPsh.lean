/-
  Plain texts; letters, groups and repeats as shapes: their trees, tokens and texts in both ways of writing, and what each is parsed to; what PatternEither's texts are parsed to: pure. No condition.
-/
import Derived.Test.YtbehbbmhkkidfaaPmodel
import Derived.Lib.IndexMore
namespace Go.Proofs.Ytbehbbmhkkidfaa
open Go.RowKit

/-- A letter or a figure. -/
def Plain (c : UInt8) : Prop := (97 ≤ c ∧ c ≤ 122) ∨ (65 ≤ c ∧ c ≤ 90) ∨ (48 ≤ c ∧ c ≤ 57)
theorem Plain.ne {c : UInt8} (h : Plain c) : c ≠ 46 ∧ c ≠ 91 ∧ c ≠ 92 ∧ c ≠ 94 ∧ c ≠ 36 ∧ c ≠ 40 ∧ c ≠ 41 ∧ c ≠ 124 ∧ c ≠ 42 ∧ c ≠ 43 ∧ c ≠ 63 ∧ c ≠ 123 := by
  unfold Plain at h
  simp only [UInt8.le_iff_toNat_le] at h
  refine ⟨?_, ?_, ?_, ?_, ?_, ?_, ?_, ?_, ?_, ?_, ?_, ?_⟩ <;> rintro rfl <;> revert h <;> decide
theorem first_plain (bk : BkF) (ext : Bool) (ah : Int) {c : UInt8} (r : List UInt8) (h : Plain c) : firstT bk ext ah (c :: r) = (oneT c.toNat, 1) := by
  obtain ⟨h1, h2, h3, h4, h5, h6, h7, h8, h9, h10, h11, h12⟩ := h.ne
  cases ext with
  | true => simp only [firstT, if_true, extT, h1, h2, h3, h4, h5, h6, h7, h8, h9, h10, h11, h12, if_false]
  | false => simp [firstT, basT, h1, h2, h3, h4, h5, h9]
theorem toks_plain (bk : BkF) (ext : Bool) : ∀ (k : Nat) (ah : Int) (l : List UInt8), (∀ c ∈ l, Plain c) → l.length ≤ k → toksF bk ext k ah l = some (l.map fun c => oneT c.toNat)
  | k, _, [], _, _ => by cases k <;> rfl
  | 0, _, _ :: _, _, h => by simp at h
  | k + 1, ah, c :: r, hp, hk => by
    have ih := toks_plain bk ext k 1 r (fun d hd => hp d (List.mem_cons_of_mem _ hd)) (by simpa using hk)
    simp only [toksF]
    rw [first_plain bk ext ah r (hp c (List.mem_cons_self ..))]
    simp only [oneT, List.drop_succ_cons, List.drop_zero, List.map_cons]
    rw [if_neg (by decide), ih]
    rfl
/-- One byte's node. -/
def oneN (c : UInt8) : PN := .mk 1 (withS noS c.toNat c.toNat) 0 0 0 []
theorem piece_plain (f : Nat) (c : UInt8) (r : List UInt8) (g : Nat) : pieceP (f + 1) ((c :: r).map fun c => oneT c.toNat) g = some (oneN c, r.map (fun c => oneT c.toNat), g) := by
  have h : repP (oneN c) (r.map fun c => oneT c.toNat) = (oneN c, r.map fun c => oneT c.toNat) := by
    cases r with
    | nil => rfl
    | cons d q => simp [repP, oneT]
  simp only [List.map_cons, pieceP, oneT]
  simp only [oneN, oneT] at h
  simp [h, oneN]
theorem rowP_next {f : Nat} {acc : List PN} {l : List Tok} {g : Nat} {n : PN} {l1 : List Tok} {g1 : Nat} (h : pieceP f l g = some (n, l1, g1)) : rowP (f + 1) acc l g = if headK l1 ≠ 0 ∧ headK l1 ≠ 6 ∧ headK l1 ≠ 5 then rowP f (acc ++ [n]) l1 g1 else some (joinK 2 (acc ++ [n]), l1, g1) := by
  simp only [rowP, h]
theorem altP_next {f : Nat} {acc : List PN} {l : List Tok} {g : Nat} {n : PN} {l1 : List Tok} {g1 : Nat} (h : rowP f [] l g = some (n, l1, g1)) : altP (f + 1) acc l g = if headK l1 = 6 then altP f (acc ++ [n]) (l1.drop 1) g1 else some (joinK 3 (acc ++ [n]), l1, g1) := by
  simp only [altP, h]
theorem row_plain : ∀ (f : Nat) (acc : List PN) (c : UInt8) (r : List UInt8) (g : Nat), r.length + 2 ≤ f → rowP f acc ((c :: r).map fun c => oneT c.toNat) g = some (joinK 2 (acc ++ (c :: r).map oneN), [], g)
  | 0, _, _, _, _, h => by omega
  | 1, _, _, _, _, h => by omega
  | f + 2, acc, c, r, g, h => by
    rw [rowP_next (f := f + 1) (piece_plain f c r g)]
    cases r with
    | nil => simp [headK]
    | cons d q =>
      have ih := row_plain (f + 1) (acc ++ [oneN c]) d q g (by simp only [List.length_cons] at h; omega)
      rw [if_pos (by simp [headK, oneT]), ih]
      simp
theorem parse_plain (bk : BkF) (ext : Bool) {l : List UInt8} (h : ∀ c ∈ l, Plain c) (h0 : l ≠ []) (hz : l.length ≤ 200) : parseP bk ext l = some (joinK 2 (l.map oneN)) := by
  unfold parseP
  rw [if_neg (by omega), toks_plain bk ext 200 4 l h hz]
  cases l with
  | nil => exact absurd rfl h0
  | cons c r =>
    have hr := row_plain 1000 [] c r 0 (by simp only [List.length_cons] at hz; omega)
    have ha : altP 1001 [] ((c :: r).map fun c => oneT c.toNat) 0 = some (joinK 2 ((c :: r).map oneN), [], 0) := by
      rw [altP_next (f := 1000) hr, if_neg (by simp [headK])]
      rfl
    simp only [ha, headK, if_true]
end Go.Proofs.Ytbehbbmhkkidfaa

namespace Go.Proofs.Ytbehbbmhkkidfaa
open Go.RowKit

/-- A letter or a group, and how often. -/
inductive Sh where
  | mk (grp : Bool) (c : UInt8) (rep : Option (Nat × Int)) (kids : List Sh)
def atomP (grp : Bool) (c : UInt8) (g : Nat) (ks : List PN) : PN := if grp = true then .mk 5 noS 0 0 ((g + 1 : Nat) : Int) [joinK 2 ks] else oneN c
def repO (rep : Option (Nat × Int)) (t : PN) : PN := match rep with
  | none => t
  | some p => .mk 4 noS (p.1 : Int) p.2 0 [t]
mutual
def cntS : Sh → Nat
  | .mk grp _ _ ks => if grp = true then 1 + cntL ks else 0
def cntL : List Sh → Nat
  | [] => 0
  | s :: r => cntS s + cntL r
end
mutual
def shP : Sh → Nat → PN
  | .mk grp c rep ks, g => repO rep (atomP grp c g (shPL ks (g + 1)))
def shPL : List Sh → Nat → List PN
  | [], _ => []
  | s :: r, g => shP s g :: shPL r (g + cntS s)
end
def repT' (rep : Option (Nat × Int)) : List Tok := match rep with
  | none => []
  | some p => [repT (p.1 : Int) p.2]
mutual
def shT : Sh → List Tok
  | .mk grp c rep ks => (if grp = true then Tok.of 4 :: (shTL ks ++ [Tok.of 5]) else [oneT c.toNat]) ++ repT' rep
def shTL : List Sh → List Tok
  | [] => []
  | s :: r => shT s ++ shTL r
end
mutual
/-- A group has something in it; letters are letters; numbers are small. -/
def okS : Sh → Prop
  | .mk grp c rep ks => (grp = true → ks ≠ []) ∧ Plain c ∧ (∀ p, rep = some p → p.1 ≤ 20 ∧ p.2 ≤ 20 ∧ (p.2 = -1 ∨ (p.1 : Int) ≤ p.2)) ∧ okL ks
def okL : List Sh → Prop
  | [] => True
  | s :: r => okS s ∧ okL r
end

/-! ### From tokens to the tree -/
theorem headK_app_ne (a b : List Tok) (h : a ≠ []) : headK (a ++ b) = headK a := by
  cases a with
  | nil => exact absurd rfl h
  | cons t r => rfl
theorem shT_head (s : Sh) : (headK (shT s) = 4 ∨ headK (shT s) = 1) ∧ shT s ≠ [] := by
  obtain ⟨grp, c, rep, ks⟩ := s
  cases grp with
  | true => exact ⟨.inl (by simp [shT, headK, Tok.of]), by simp [shT]⟩
  | false => exact ⟨.inr (by simp [shT, headK, oneT]), by simp [shT]⟩
theorem rep_same (rep : Option (Nat × Int)) (t : PN) (L : List Tok) (hL : rep = none → headK L ≠ 7) : repP t (repT' rep ++ L) = (repO rep t, L) := by
  cases rep with
  | none =>
    have := hL rfl
    cases L with
    | nil => rfl
    | cons t r =>
      simp only [repT', List.nil_append, repP, repO]
      rw [if_neg (by simpa [headK] using this)]
  | some p => simp [repT', repP, repT, repO]
theorem rowP_next' {f : Nat} {acc : List PN} {l : List Tok} {g : Nat} {n : PN} {l1 : List Tok} {g1 : Nat} (h : pieceP f l g = some (n, l1, g1)) : rowP (f + 1) acc l g = if headK l1 ≠ 0 ∧ headK l1 ≠ 6 ∧ headK l1 ≠ 5 then rowP f (acc ++ [n]) l1 g1 else some (joinK 2 (acc ++ [n]), l1, g1) := rowP_next h
def EndK (L : List Tok) : Prop := headK L = 0 ∨ headK L = 6 ∨ headK L = 5
mutual
theorem piece_sh : ∀ (s : Sh) (f : Nat) (L : List Tok) (g : Nat), okS s → 4 * (shT s).length ≤ f → g + cntS s ≤ 9 → headK L ≠ 7 → pieceP f (shT s ++ L) g = some (shP s g, L, g + cntS s)
  | .mk false c rep ks, f, L, g, hok, hf, hg, hL => by
    match f, hf with
    | 0, hf => simp [shT] at hf
    | f + 1, hf =>
      have h := rep_same rep (oneN c) L (fun _ => hL)
      simp only [oneN] at h
      simp only [shT, Bool.false_eq_true, if_false, List.cons_append, List.nil_append, pieceP, oneT]
      simp [h, shP, atomP, oneN, cntS]
  | .mk true c rep ks, f, L, g, hok, hf, hg, hL => by
    obtain ⟨hne, _, _, hk⟩ := okS.eq_1 true c rep ks ▸ hok
    simp only [shT, if_true, List.length_append, List.length_cons, List.length_nil] at hf
    simp only [cntS, if_true] at hg
    match f, hf with
    | 0, hf => omega
    | 1, hf => omega
    | 2, hf => omega
    | f + 3, hf =>
      have hr := row_sh ks f [] (Tok.of 5 :: (repT' rep ++ L)) (g + 1) (hne rfl) hk (by omega) (by omega) (.inr (.inr rfl))
      have ha : altP (f + 1) [] (shTL ks ++ (Tok.of 5 :: (repT' rep ++ L))) (g + 1) = some (joinK 2 (shPL ks (g + 1)), Tok.of 5 :: (repT' rep ++ L), g + 1 + cntL ks) := by
        rw [altP_next hr, if_neg (by simp [headK, Tok.of])]
        rfl
      have hgp : groupP (f + 2) (shTL ks ++ (Tok.of 5 :: (repT' rep ++ L))) g = some (.mk 5 noS 0 0 ((g + 1 : Nat) : Int) [joinK 2 (shPL ks (g + 1))], repT' rep ++ L, g + 1 + cntL ks) := by
        simp only [groupP, ha]
        rw [if_neg (by simp [headK, Tok.of]; omega)]
        rfl
      have h := rep_same rep (.mk 5 noS 0 0 ((g + 1 : Nat) : Int) [joinK 2 (shPL ks (g + 1))]) L (fun _ => hL)
      have e : shT (.mk true c rep ks) ++ L = Tok.of 4 :: (shTL ks ++ (Tok.of 5 :: (repT' rep ++ L))) := by simp [shT]
      rw [e]
      simp only [pieceP, hgp]
      simp only [Tok.of, h]
      simp [shP, atomP, cntS, Nat.add_assoc]
theorem row_sh : ∀ (l : List Sh) (f : Nat) (acc : List PN) (L : List Tok) (g : Nat), l ≠ [] → okL l → 4 * (shTL l).length + 1 ≤ f → g + cntL l ≤ 9 → EndK L → rowP f acc (shTL l ++ L) g = some (joinK 2 (acc ++ shPL l g), L, g + cntL l)
  | [], _, _, _, _, h, _, _, _, _ => absurd rfl h
  | s :: r, f, acc, L, g, _, hok, hf, hg, hL => by
    obtain ⟨h1, h2⟩ := okL.eq_2 s r ▸ hok
    simp only [shTL, List.length_append] at hf
    simp only [cntL] at hg
    match f, hf with
    | f + 1, hf =>
      have hL7 : headK L ≠ 7 := by rcases hL with h | h | h <;> rw [h] <;> decide
      match r, h2 with
      | [], _ =>
        have hp := piece_sh s f L g h1 (by simp only [shTL, List.length_nil] at hf; omega) (by simp only [cntL] at hg; omega) hL7
        simp only [shTL, List.append_nil]
        rw [rowP_next hp, if_neg (by rcases hL with h | h | h <;> rw [h] <;> simp)]
        simp [shPL, cntL]
      | q :: r, h2 =>
        obtain ⟨hh, hn⟩ := shT_head q
        have hq : headK (shTL (q :: r) ++ L) = headK (shT q) := by
          simp only [shTL, List.append_assoc]
          exact headK_app_ne _ _ hn
        have hp := piece_sh s f (shTL (q :: r) ++ L) g h1 (by omega) (by omega) (by rw [hq]; rcases hh with h | h <;> rw [h] <;> decide)
        have hr := row_sh (q :: r) f (acc ++ [shP s g]) L (g + cntS s) (by simp) h2 (by have := List.length_pos_iff.2 (shT_head s).2; omega) (by omega) hL
        have e : shTL (s :: q :: r) ++ L = shT s ++ (shTL (q :: r) ++ L) := by simp [shTL]
        rw [e, rowP_next hp, if_pos (by rw [hq]; rcases hh with h | h <;> rw [h] <;> simp), hr]
        simp [shPL, cntL, Nat.add_assoc]
end

/-! ### From the text to tokens -/
def digB (n : Nat) : List UInt8 := if n < 10 then [UInt8.ofNat (48 + n)] else [UInt8.ofNat (48 + n / 10), UInt8.ofNat (48 + n % 10)]
def ivB (lo : Nat) (hi : Int) : List UInt8 := digB lo ++ (if hi = (lo : Int) then [] else 44 :: (if hi < 0 then [] else digB hi.toNat))
def slB (ext : Bool) : List UInt8 := if ext = true then [] else [92]
def repB' (ext : Bool) (rep : Option (Nat × Int)) : List UInt8 := match rep with
  | none => []
  | some p => if p.1 = 0 ∧ p.2 = -1 then [42] else slB ext ++ [123] ++ ivB p.1 p.2 ++ slB ext ++ [125]
mutual
def shB (ext : Bool) : Sh → List UInt8
  | .mk grp c rep ks => (if grp = true then slB ext ++ [40] ++ shBL ext ks ++ slB ext ++ [41] else [c]) ++ repB' ext rep
def shBL (ext : Bool) : List Sh → List UInt8
  | [] => []
  | s :: r => shB ext s ++ shBL ext r
end
theorem index_lead (x : UInt8) (q r : List UInt8) : ∀ a : List UInt8, (∀ c ∈ a, c ≠ x) → Lib.index (a ++ (x :: q ++ r)) (x :: q) = (a.length : Int)
  | [], _ => by
    have h : (x :: q).isPrefixOf (x :: q ++ r) = true := List.isPrefixOf_iff_prefix.2 (List.prefix_append _ _)
    rw [List.nil_append]
    rw [List.cons_append] at h ⊢
    unfold Lib.index
    rw [if_pos h]
    rfl
  | c :: a, hc => by
    have ih := index_lead x q r a fun d hd => hc d (List.mem_cons_of_mem _ hd)
    have h : (x :: q).isPrefixOf (c :: a ++ (x :: q ++ r)) = false := by
      have := hc c (List.mem_cons_self ..)
      simp only [List.cons_append, List.isPrefixOf]
      rw [show (x == c) = false by simp; exact fun h => this h.symm]
      rfl
    rw [List.cons_append] at h ⊢
    unfold Lib.index
    rw [h, ih]
    have : ((a.length : Int) == -1) = false := by rw [beq_eq_false_iff_ne]; omega
    simp [this]
theorem index_miss (x : UInt8) : ∀ a : List UInt8, (∀ c ∈ a, c ≠ x) → Lib.index a [x] = -1
  | [], _ => rfl
  | c :: a, hc => by
    have ih := index_miss x a fun d hd => hc d (List.mem_cons_of_mem _ hd)
    have h : [x].isPrefixOf (c :: a) = false := by
      have := hc c (List.mem_cons_self ..)
      simp only [List.isPrefixOf]
      rw [show (x == c) = false by simp; exact fun h => this h.symm]
      rfl
    unfold Lib.index
    rw [h, ih]
    rfl
theorem cut_lead (x : UInt8) (q r : List UInt8) {a : List UInt8} (h : ∀ c ∈ a, c ≠ x) : Lib.cut (a ++ (x :: q ++ r)) (x :: q) = (a, r, true) := by
  unfold Lib.cut
  rw [index_lead x q r a h, if_pos (by omega)]
  have e : ((a.length : Int)).toNat = a.length := rfl
  rw [e, List.take_left' rfl]
  have e2 : a.length + (x :: q).length = (a ++ (x :: q)).length := by simp
  rw [e2, ← List.append_assoc, List.drop_left' rfl]
theorem cut_miss (x : UInt8) {a : List UInt8} (h : ∀ c ∈ a, c ≠ x) : Lib.cut a [x] = (a, [], false) := by
  unfold Lib.cut
  rw [index_miss x a h, if_neg (by omega)]
theorem dig_ok : ∀ n, n < 21 → numP (digB n) = (n, true) ∧ digB n ≠ [] ∧ (digB n).all (fun c => c != 44 && c != 92 && c != 125) = true := by decide
theorem dig_no {n : Nat} (h : n < 21) {c : UInt8} (hc : c ∈ digB n) : c ≠ 44 ∧ c ≠ 92 ∧ c ≠ 125 := by
  have := List.all_eq_true.1 (dig_ok n h).2.2 c hc
  simp only [Bool.and_eq_true, bne_iff_ne] at this
  exact ⟨this.1.1, this.1.2, this.2⟩
theorem iv_no {lo : Nat} {hi : Int} (hl : lo ≤ 20) (hh : hi ≤ 20) {c : UInt8} (hc : c ∈ ivB lo hi) : c ≠ 92 ∧ c ≠ 125 := by
  unfold ivB at hc
  rcases List.mem_append.1 hc with h | h
  · exact (dig_no (by omega) h).2
  · split at h
    · cases h
    · rcases List.mem_cons.1 h with rfl | h
      · decide
      · split at h
        · cases h
        · exact (dig_no (by omega) h).2
theorem int_iv {m : Nat} {x : UInt8} {q : List UInt8} (hx : x = 92 ∨ x = 125) {lo : Nat} {hi : Int} (hl : lo ≤ 20) (hh : hi ≤ 20) (ho : hi = -1 ∨ (lo : Int) ≤ hi) (r : List UInt8) : intT m (x :: q) (ivB lo hi ++ (x :: q ++ r)) = (repT (lo : Int) hi, m + (ivB lo hi).length + (x :: q).length) := by
  have hc := cut_lead x q r (a := ivB lo hi) (fun c hc => by
    have := iv_no hl hh hc
    rcases hx with rfl | rfl
    · exact this.1
    · exact this.2)
  obtain ⟨n1, n2, _⟩ := dig_ok lo (by omega)
  unfold intT
  simp only [hc]
  by_cases e : hi = (lo : Int)
  · have h2 : Lib.cut (ivB lo hi) [44] = (digB lo, [], false) := by
      have : ivB lo hi = digB lo := by unfold ivB; rw [if_pos e, List.append_nil]
      rw [this]
      exact cut_miss 44 fun c hc => (dig_no (by omega) hc).1
    simp only [h2, n1]
    simp [e]
  · have hiv : ivB lo hi = digB lo ++ ([44] ++ (if hi < 0 then [] else digB hi.toNat)) := by unfold ivB; rw [if_neg e]; rfl
    have h2 : Lib.cut (ivB lo hi) [44] = (digB lo, (if hi < 0 then [] else digB hi.toNat), true) := by
      rw [hiv]
      exact cut_lead 44 [] _ fun c hc => (dig_no (by omega) hc).1
    simp only [h2, n1]
    by_cases h0 : hi < 0
    · have : hi = -1 := by omega
      simp [this]
    · obtain ⟨m1, m2, _⟩ := dig_ok hi.toNat (by omega)
      simp only [if_neg h0, m1]
      have hlt : ¬ hi.toNat < lo := by omega
      have e3 : ((hi.toNat : Nat) : Int) = hi := by omega
      simp [m2, hlt, e3]
theorem tok_step {bk : BkF} {ext : Bool} {ah : Int} {l : List UInt8} {t : Tok} {k n : Nat} (hl : l ≠ []) (h : firstT bk ext ah l = (t, k)) (h0 : t.kind ≠ 0) : toksF bk ext (n + 1) ah l = (toksF bk ext n t.kind (l.drop k)).map (t :: ·) := by
  cases l with
  | nil => exact absurd rfl hl
  | cons c r =>
    simp only [toksF, h]
    rw [if_neg h0]
theorem tok_open (bk : BkF) (ext : Bool) (ah : Int) (r : List UInt8) (n : Nat) : toksF bk ext (n + 1) ah (slB ext ++ [40] ++ r) = (toksF bk ext n 4 r).map (Tok.of 4 :: ·) := by
  cases ext with
  | true => exact tok_step (by simp [slB]) (k := 1) (by simp [slB, firstT, extT]) (by simp [Tok.of])
  | false => exact tok_step (by simp [slB]) (k := 2) (by simp [slB, firstT, basT, basEsc, List.isPrefixOf]) (by simp [Tok.of])
theorem tok_close (bk : BkF) (ext : Bool) (ah : Int) (r : List UInt8) (n : Nat) : toksF bk ext (n + 1) ah (slB ext ++ [41] ++ r) = (toksF bk ext n 5 r).map (Tok.of 5 :: ·) := by
  cases ext with
  | true => exact tok_step (by simp [slB]) (k := 1) (by simp [slB, firstT, extT]) (by simp [Tok.of])
  | false => exact tok_step (by simp [slB]) (k := 2) (by simp [slB, firstT, basT, basEsc, List.isPrefixOf]) (by simp [Tok.of])
theorem tok_rep (bk : BkF) (ext : Bool) (ah : Int) (ha : ah = 1 ∨ ah = 5) {p : Nat × Int} (h1 : p.1 ≤ 20) (h2 : p.2 ≤ 20) (h3 : p.2 = -1 ∨ (p.1 : Int) ≤ p.2) (r : List UInt8) (n : Nat) : toksF bk ext (n + 1) ah (repB' ext (some p) ++ r) = (toksF bk ext n 7 r).map (repT (p.1 : Int) p.2 :: ·) := by
  obtain ⟨lo, hi⟩ := p
  simp only [repB']
  split
  · rename_i h
    obtain ⟨rfl, rfl⟩ : lo = 0 ∧ hi = -1 := h
    cases ext with
    | true => exact tok_step (by simp) (k := 1) (by simp [firstT, extT]) (by simp [repT])
    | false => exact tok_step (by simp) (k := 1) (by rcases ha with rfl | rfl <;> simp [firstT, basT]) (by simp [repT])
  · cases ext with
    | true =>
      have hi' := int_iv (m := 1) (q := []) (.inr rfl) h1 h2 h3 r
      simp only [List.cons_append, List.nil_append] at hi'
      have e : slB true ++ [123] ++ ivB lo hi ++ slB true ++ [125] ++ r = 123 :: (ivB lo hi ++ (125 :: r)) := by simp [slB]
      rw [e]
      have := tok_step (bk := bk) (ext := true) (ah := ah) (l := 123 :: (ivB lo hi ++ (125 :: r))) (n := n) (by simp) (t := repT lo hi) (k := 1 + (ivB lo hi).length + 1) (by simp only [firstT, if_true, extT]; simpa using hi') (by simp [repT])
      rw [this]
      have ed : (123 :: (ivB lo hi ++ (125 :: r))).drop (1 + (ivB lo hi).length + 1) = r := by
        rw [show 1 + (ivB lo hi).length + 1 = ((123 : UInt8) :: (ivB lo hi ++ [125])).length by simp; omega, show (123 : UInt8) :: (ivB lo hi ++ (125 :: r)) = (123 :: (ivB lo hi ++ [125])) ++ r by simp, List.drop_left' rfl]
      rw [ed]
      rfl
    | false =>
      have hi' := int_iv (m := 2) (q := [125]) (.inl rfl) h1 h2 h3 r
      simp only [List.cons_append, List.nil_append] at hi'
      have e : slB false ++ [123] ++ ivB lo hi ++ slB false ++ [125] ++ r = 92 :: 123 :: (ivB lo hi ++ (92 :: 125 :: r)) := by simp [slB]
      rw [e]
      have := tok_step (bk := bk) (ext := false) (ah := ah) (l := 92 :: 123 :: (ivB lo hi ++ (92 :: 125 :: r))) (n := n) (by simp) (t := repT lo hi) (k := 2 + (ivB lo hi).length + 2) (by simp only [firstT, basT, basEsc]; simpa [List.isPrefixOf] using hi') (by simp [repT])
      rw [this]
      have ed : (92 :: 123 :: (ivB lo hi ++ (92 :: 125 :: r))).drop (2 + (ivB lo hi).length + 2) = r := by
        rw [show 2 + (ivB lo hi).length + 2 = ((92 : UInt8) :: 123 :: (ivB lo hi ++ [92, 125])).length by simp; omega, show (92 : UInt8) :: 123 :: (ivB lo hi ++ (92 :: 125 :: r)) = (92 :: 123 :: (ivB lo hi ++ [92, 125])) ++ r by simp, List.drop_left' rfl]
      rw [ed]
      rfl
theorem map_cons_map {o : Option (List Tok)} (t : Tok) (l : List Tok) : (o.map (l ++ ·)).map (t :: ·) = o.map ((t :: l) ++ ·) := by cases o <;> rfl
theorem map_app_map {o : Option (List Tok)} (k l : List Tok) : (o.map (l ++ ·)).map (k ++ ·) = o.map ((k ++ l) ++ ·) := by cases o <;> simp
def lastK (grp : Bool) (rep : Option (Nat × Int)) : Int := match rep with
  | none => if grp = true then 5 else 1
  | some _ => 7
def lastS : Sh → Int
  | .mk grp _ rep _ => lastK grp rep
def lastL (ah : Int) : List Sh → Int
  | [] => ah
  | s :: r => lastL (lastS s) r
theorem tok_tail (bk : BkF) (ext : Bool) (grp : Bool) {rep : Option (Nat × Int)} (h : ∀ p, rep = some p → p.1 ≤ 20 ∧ p.2 ≤ 20 ∧ (p.2 = -1 ∨ (p.1 : Int) ≤ p.2)) (r : List UInt8) (n : Nat) : toksF bk ext (n + (repT' rep).length) (if grp = true then 5 else 1) (repB' ext rep ++ r) = (toksF bk ext n (lastK grp rep) r).map (repT' rep ++ ·) := by
  cases rep with
  | none =>
    simp only [repT', repB', List.length_nil, Nat.add_zero, List.nil_append, lastK]
    cases toksF bk ext n (if grp = true then 5 else 1) r <;> rfl
  | some p =>
    obtain ⟨h1, h2, h3⟩ := h p rfl
    have := tok_rep bk ext (if grp = true then 5 else 1) (by cases grp <;> simp) h1 h2 h3 r n
    simp only [repT', List.length_cons, List.length_nil, Nat.zero_add, lastK]
    rw [this]
    rfl
mutual
theorem toks_sh (bk : BkF) (ext : Bool) : ∀ (s : Sh) (n : Nat) (ah : Int) (r : List UInt8), okS s → toksF bk ext (n + (shT s).length) ah (shB ext s ++ r) = (toksF bk ext n (lastS s) r).map (shT s ++ ·)
  | .mk false c rep ks, n, ah, r, hok => by
    obtain ⟨_, hp, hr, _⟩ := okS.eq_1 false c rep ks ▸ hok
    have ht := tok_tail bk ext false hr r n
    simp only [Bool.false_eq_true, if_false] at ht
    simp only [shT, shB, Bool.false_eq_true, if_false, List.cons_append, List.nil_append, List.length_cons, lastS]
    rw [← Nat.add_assoc, tok_step (by simp) (first_plain bk ext ah _ hp) (by simp [oneT])]
    simp only [List.drop_succ_cons, List.drop_zero, oneT]
    rw [ht, map_cons_map]
    rfl
  | .mk true c rep ks, n, ah, r, hok => by
    obtain ⟨_, hp, hr, hk⟩ := okS.eq_1 true c rep ks ▸ hok
    have ht := tok_tail bk ext true hr r n
    simp only [if_true] at ht
    have e : shB ext (.mk true c rep ks) ++ r = slB ext ++ [40] ++ (shBL ext ks ++ (slB ext ++ [41] ++ (repB' ext rep ++ r))) := by simp [shB]
    have en : n + (shT (.mk true c rep ks)).length = ((n + (repT' rep).length + 1) + (shTL ks).length) + 1 := by simp [shT]; omega
    have el : lastS (.mk true c rep ks) = lastK true rep := rfl
    rw [e, en, tok_open, toks_shL bk ext ks _ 4 _ hk, tok_close, ht, el]
    cases toksF bk ext n (lastK true rep) r <;> simp [shT]
theorem toks_shL (bk : BkF) (ext : Bool) : ∀ (l : List Sh) (n : Nat) (ah : Int) (r : List UInt8), okL l → toksF bk ext (n + (shTL l).length) ah (shBL ext l ++ r) = (toksF bk ext n (lastL ah l) r).map (shTL l ++ ·)
  | [], n, ah, r, _ => by
    simp only [shTL, shBL, List.length_nil, Nat.add_zero, List.nil_append, lastL]
    cases toksF bk ext n ah r <;> rfl
  | s :: q, n, ah, r, hok => by
    obtain ⟨h1, h2⟩ := okL.eq_2 s q ▸ hok
    have e : shBL ext (s :: q) ++ r = shB ext s ++ (shBL ext q ++ r) := by simp [shBL]
    have en : n + (shTL (s :: q)).length = (n + (shTL q).length) + (shT s).length := by simp [shTL]; omega
    rw [e, en, toks_sh bk ext s _ ah _ h1, toks_shL bk ext q n _ r h2, map_app_map]
    simp [shTL, lastL]
end
theorem toksF_more (bk : BkF) (ext : Bool) : ∀ (n m : Nat) (ah : Int) (l : List UInt8) (ts : List Tok), toksF bk ext n ah l = some ts → toksF bk ext (n + m) ah l = some ts
  | n, m, ah, [], ts, h => by
    cases n <;> cases m <;> simpa [toksF] using h
  | 0, m, ah, c :: r, ts, h => by simp [toksF] at h
  | n + 1, m, ah, c :: r, ts, h => by
    rw [show n + 1 + m = (n + m) + 1 by omega]
    simp only [toksF] at h ⊢
    split at h
    · cases h
    · rename_i h0
      rw [if_neg h0]
      obtain ⟨us, hu, rfl⟩ := Option.map_eq_some_iff.1 h
      rw [toksF_more bk ext n m _ _ us hu]
      rfl
mutual
theorem len_sh (ext : Bool) : ∀ s : Sh, (shT s).length ≤ (shB ext s).length
  | .mk grp c rep ks => by
    have := len_shL ext ks
    have hr : (repT' rep).length ≤ (repB' ext rep).length := by
      cases rep with
      | none => exact Nat.le_refl _
      | some p =>
        simp only [repT', repB', List.length_cons, List.length_nil]
        split
        · exact Nat.le_refl _
        · simp only [List.length_append, List.length_cons, List.length_nil]; omega
    cases grp with
    | true => simp only [shT, shB, if_true, List.length_append, List.length_cons, List.length_nil]; omega
    | false => simp only [shT, shB, Bool.false_eq_true, if_false, List.length_append, List.length_cons, List.length_nil]; omega
theorem len_shL (ext : Bool) : ∀ l : List Sh, (shTL l).length ≤ (shBL ext l).length
  | [] => Nat.le_refl _
  | s :: r => by
    have h1 := len_sh ext s
    have h2 := len_shL ext r
    simp only [shTL, shBL, List.length_append]
    omega
end
/-- A written row is parsed to itself. -/
theorem parse_sh (bk : BkF) (ext : Bool) {l : List Sh} (hl : l ≠ []) (hok : okL l) (hg : cntL l ≤ 9) (hz : (shBL ext l).length ≤ 200) : parseP bk ext (shBL ext l) = some (joinK 2 (shPL l 0)) := by
  have hlen := len_shL ext l
  have ht : toksF bk ext 200 4 (shBL ext l) = some (shTL l) := by
    have h := toks_shL bk ext l 0 4 [] hok
    rw [List.append_nil, Nat.zero_add] at h
    have h0 : ∀ ah, toksF bk ext 0 ah [] = some [] := fun ah => by simp [toksF]
    rw [h0] at h
    have := toksF_more bk ext (shTL l).length (200 - (shTL l).length) 4 _ _ h
    rw [show (shTL l).length + (200 - (shTL l).length) = 200 by omega] at this
    simpa using this
  have hr := row_sh l 1000 [] [] 0 hl hok (by omega) (by omega) (.inl rfl)
  rw [List.append_nil] at hr
  have ha : altP 1001 [] (shTL l) 0 = some (joinK 2 (shPL l 0), [], 0 + cntL l) := by
    rw [altP_next (f := 1000) hr, if_neg (by simp [headK])]
    rfl
  unfold parseP
  rw [if_neg (by omega), ht]
  simp only [ha, headK, if_true]
end Go.Proofs.Ytbehbbmhkkidfaa

namespace Go.Proofs.Ytbehbbmhkkidfaa
open Go.RowKit

def ltr (c : UInt8) : Sh := .mk false c none []
theorem ltr_P : ∀ (l : List UInt8) (g : Nat), shPL (l.map ltr) g = l.map oneN
  | [], _ => by simp [shPL]
  | c :: r, g => by
    have := ltr_P r g
    simp only [List.map_cons, shPL, ltr, shP, repO, atomP, cntS, Bool.false_eq_true, if_false, Nat.add_zero]
    exact congrArg (oneN c :: ·) this
theorem ltr_T : ∀ l : List UInt8, shTL (l.map ltr) = l.map fun c => oneT c.toNat
  | [] => by simp [shTL]
  | c :: r => by
    have := ltr_T r
    simp only [List.map_cons, shTL, ltr, shT, Bool.false_eq_true, if_false, repT', List.append_nil, List.cons_append, List.nil_append]
    exact congrArg (oneT c.toNat :: ·) this
theorem ltr_B (ext : Bool) : ∀ l : List UInt8, shBL ext (l.map ltr) = l
  | [] => by simp [shBL]
  | c :: r => by
    have := ltr_B ext r
    simp only [List.map_cons, shBL, ltr, shB, Bool.false_eq_true, if_false, repB', List.append_nil, List.cons_append, List.nil_append]
    exact congrArg (c :: ·) this
theorem ltr_cnt : ∀ l : List UInt8, cntL (l.map ltr) = 0
  | [] => rfl
  | c :: r => by
    have := ltr_cnt r
    simp only [List.map_cons, cntL, ltr, cntS, Bool.false_eq_true, if_false, Nat.zero_add]
    exact this
theorem okL_nil : okL [] := by rw [okL.eq_1]; trivial
theorem okL_cons {s : Sh} {r : List Sh} (h : okS s) (k : okL r) : okL (s :: r) := by rw [okL.eq_2]; exact ⟨h, k⟩
theorem ltr_ok : ∀ l : List UInt8, (∀ c ∈ l, Plain c) → okL (l.map ltr)
  | [], _ => okL_nil
  | c :: r, h => okL_cons (by
      show okS (.mk false c none [])
      rw [okS.eq_1]
      exact ⟨(fun h => by cases h), h c (List.mem_cons_self ..), (fun p hp => by cases hp), okL_nil⟩) (ltr_ok r fun d hd => h d (List.mem_cons_of_mem _ hd))
def grpS (l : List UInt8) (p : Nat × Int) : Sh := .mk true 97 (some p) (l.map ltr)
def grpN (l : List UInt8) (g : Nat) : PN := .mk 5 noS 0 0 (g : Int) [joinK 2 (l.map oneN)]
theorem grp_P (l : List UInt8) (p : Nat × Int) (g : Nat) : shP (grpS l p) g = .mk 4 noS (p.1 : Int) p.2 0 [grpN l (g + 1)] := by
  simp only [grpS, shP, repO, atomP, if_true, ltr_P, grpN]
theorem grp_T (l : List UInt8) (p : Nat × Int) : shT (grpS l p) = Tok.of 4 :: ((l.map fun c => oneT c.toNat) ++ [Tok.of 5, repT (p.1 : Int) p.2]) := by
  simp [grpS, shT, ltr_T, repT']
theorem grp_cnt (l : List UInt8) (p : Nat × Int) : cntS (grpS l p) = 1 := by simp [grpS, cntS, ltr_cnt]
theorem grp_ok {l : List UInt8} (h : ∀ c ∈ l, Plain c) (h0 : l ≠ []) {p : Nat × Int} (hp : p.1 ≤ 20 ∧ p.2 ≤ 20 ∧ (p.2 = -1 ∨ (p.1 : Int) ≤ p.2)) : okS (grpS l p) := by
  unfold grpS
  rw [okS.eq_1]
  refine ⟨fun _ => by simpa using h0, .inl ⟨by decide, by decide⟩, fun q hq => ?_, ltr_ok l h⟩
  cases hq
  exact hp
/-- Two groups in a row. -/
def twoN (a b : List UInt8) (p q : Nat × Int) : PN := .mk 2 noS 0 0 0 [.mk 4 noS (p.1 : Int) p.2 0 [grpN a 1], .mk 4 noS (q.1 : Int) q.2 0 [grpN b 2]]
theorem parse_toks {bk : BkF} {ext : Bool} {l : List UInt8} {L : List Sh} (hl : l.length ≤ 200) (ht : ∃ n, n ≤ 200 ∧ toksF bk ext n 4 l = some (shTL L)) (hn : (shTL L).length ≤ 200) (hL : L ≠ []) (hok : okL L) (hg : cntL L ≤ 9) : parseP bk ext l = some (joinK 2 (shPL L 0)) := by
  obtain ⟨n, hn2, ht⟩ := ht
  have ht2 : toksF bk ext 200 4 l = some (shTL L) := by
    have := toksF_more bk ext n (200 - n) 4 _ _ ht
    rwa [show n + (200 - n) = 200 by omega] at this
  have hr := row_sh L 1000 [] [] 0 hL hok (by omega) (by omega) (.inl rfl)
  rw [List.append_nil] at hr
  have ha : altP 1001 [] (shTL L) 0 = some (joinK 2 (shPL L 0), [], 0 + cntL L) := by
    rw [altP_next (f := 1000) hr, if_neg (by simp [headK])]
    rfl
  unfold parseP
  rw [if_neg (by omega), ht2]
  simp only [ha, headK, if_true]
theorem two_P (a b : List UInt8) (p q : Nat × Int) : joinK 2 (shPL [grpS a p, grpS b q] 0) = twoN a b p q := by
  simp only [shPL, grp_P, grp_cnt]
  rfl
/-- (a)*(b){n}. -/
theorem parse_two (bk : BkF) {a b : List UInt8} (ha : ∀ c ∈ a, Plain c) (hb : ∀ c ∈ b, Plain c) (a0 : a ≠ []) (b0 : b ≠ []) (a9 : a.length ≤ 9) (b9 : b.length ≤ 9) {n : Nat} (hn : n ≤ 20) : parseP bk true ([40] ++ a ++ [41, 42, 40] ++ b ++ [41, 123] ++ digB n ++ [125]) = some (twoN a b (0, -1) (n, (n : Int))) := by
  have e : [40] ++ a ++ [41, 42, 40] ++ b ++ [41, 123] ++ digB n ++ [125] = shBL true [grpS a (0, -1), grpS b (n, (n : Int))] := by
    have hne : ¬ (n = 0 ∧ (n : Int) = -1) := by omega
    simp [shBL, grpS, shB, slB, ltr_B, repB', ivB]
  have hd : (digB n).length ≤ 2 := by unfold digB; split <;> simp
  rw [e, parse_sh bk true (by simp) (okL_cons (grp_ok ha a0 ⟨by decide, by decide, .inl rfl⟩) (okL_cons (grp_ok hb b0 ⟨hn, by show (n : Int) ≤ 20; omega, .inr (Int.le_refl _)⟩) okL_nil)) (by simp only [cntL, grp_cnt]; decide) (by rw [← e]; simp only [List.length_append, List.length_cons, List.length_nil]; omega), two_P]
theorem tok_plus (bk : BkF) (ah : Int) (r : List UInt8) (n : Nat) : toksF bk true (n + 1) ah (43 :: r) = (toksF bk true n 7 r).map (repT 1 (-1) :: ·) := tok_step (by simp) (k := 1) (by simp [firstT, extT]) (by simp [repT])
theorem tok_may (bk : BkF) (ah : Int) (r : List UInt8) (n : Nat) : toksF bk true (n + 1) ah (63 :: r) = (toksF bk true n 7 r).map (repT 0 1 :: ·) := tok_step (by simp) (k := 1) (by simp [firstT, extT]) (by simp [repT])
theorem tok_bar (bk : BkF) (ah : Int) (r : List UInt8) (n : Nat) : toksF bk true (n + 1) ah (124 :: r) = (toksF bk true n 6 r).map (Tok.of 6 :: ·) := tok_step (by simp) (k := 1) (by simp [firstT, extT]) (by simp [Tok.of])
theorem tok_group (bk : BkF) {a : List UInt8} (ha : ∀ c ∈ a, Plain c) (ah : Int) (r : List UInt8) (n : Nat) : toksF bk true (n + (a.length + 2)) ah (40 :: (a ++ (41 :: r))) = (toksF bk true n 5 r).map ((Tok.of 4 :: ((a.map fun c => oneT c.toNat) ++ [Tok.of 5])) ++ ·) := by
  have h1 := tok_open bk true ah (a ++ (41 :: r)) (n + 1 + a.length)
  simp only [slB, if_true, List.nil_append, List.cons_append] at h1
  have h2 := toks_shL bk true (a.map ltr) (n + 1) 4 (41 :: r) (ltr_ok a ha)
  rw [ltr_T, ltr_B, List.length_map] at h2
  have h3 := tok_close bk true (lastL 4 (a.map ltr)) r n
  simp only [slB, if_true, List.nil_append, List.cons_append] at h3
  rw [show n + (a.length + 2) = n + 1 + a.length + 1 by omega, h1, h2, h3]
  cases toksF bk true n 5 r <;> simp
/-- (a)+(b)?. -/
theorem parse_more (bk : BkF) {a b : List UInt8} (ha : ∀ c ∈ a, Plain c) (hb : ∀ c ∈ b, Plain c) (a0 : a ≠ []) (b0 : b ≠ []) (a9 : a.length ≤ 9) (b9 : b.length ≤ 9) : parseP bk true ([40] ++ a ++ [41, 43, 40] ++ b ++ [41, 63]) = some (twoN a b (1, -1) (0, 1)) := by
  have hT : shTL [grpS a (1, -1), grpS b (0, 1)] = (Tok.of 4 :: ((a.map fun c => oneT c.toNat) ++ [Tok.of 5, repT 1 (-1)])) ++ (Tok.of 4 :: ((b.map fun c => oneT c.toNat) ++ [Tok.of 5, repT 0 1])) := by
    simp [shTL, grp_T]
  have e : [40] ++ a ++ [41, 43, 40] ++ b ++ [41, 63] = 40 :: (a ++ (41 :: (43 :: (40 :: (b ++ (41 :: (63 :: []))))))) := by simp
  rw [e, parse_toks (L := [grpS a (1, -1), grpS b (0, 1)]) (by simp; omega) ⟨(0 + 1 + (b.length + 2)) + 1 + (a.length + 2), by omega, ?_⟩ (by rw [hT]; simp; omega) (by simp) (okL_cons (grp_ok ha a0 ⟨by decide, by decide, .inl rfl⟩) (okL_cons (grp_ok hb b0 ⟨by decide, by decide, .inr (by decide)⟩) okL_nil)) (by simp only [cntL, grp_cnt]; decide), two_P]
  rw [tok_group bk ha, tok_plus, tok_group bk hb, tok_may, hT]
  simp [toksF]
/-- a|b. -/
theorem parse_either (bk : BkF) {a b : List UInt8} (ha : ∀ c ∈ a, Plain c) (hb : ∀ c ∈ b, Plain c) (a0 : a ≠ []) (b0 : b ≠ []) (a9 : a.length ≤ 9) (b9 : b.length ≤ 9) : parseP bk true (a ++ [124] ++ b) = some (.mk 3 noS 0 0 0 [joinK 2 (a.map oneN), joinK 2 (b.map oneN)]) := by
  have ht : toksF bk true 200 4 (a ++ [124] ++ b) = some ((a.map fun c => oneT c.toNat) ++ (Tok.of 6 :: b.map fun c => oneT c.toNat)) := by
    have h2 := toks_shL bk true (a.map ltr) (b.length + 1) 4 (124 :: b) (ltr_ok a ha)
    rw [ltr_T, ltr_B, List.length_map, tok_bar] at h2
    have h3 := toks_plain bk true b.length 6 b hb (Nat.le_refl _)
    rw [h3] at h2
    have h4 := toksF_more bk true (b.length + 1 + a.length) (200 - (b.length + 1 + a.length)) 4 _ _ (by simpa using h2)
    rw [show b.length + 1 + a.length + (200 - (b.length + 1 + a.length)) = 200 by omega] at h4
    simpa using h4
  have hr1 := row_sh (a.map ltr) 1000 [] (Tok.of 6 :: b.map fun c => oneT c.toNat) 0 (by simpa using a0) (ltr_ok a ha) (by rw [ltr_T]; simp; omega) (by rw [ltr_cnt]; omega) (.inr (.inl rfl))
  have hr2 := row_sh (b.map ltr) 999 [] [] 0 (by simpa using b0) (ltr_ok b hb) (by rw [ltr_T]; simp; omega) (by rw [ltr_cnt]; omega) (.inl rfl)
  rw [ltr_T, ltr_cnt, ltr_P] at hr1
  rw [ltr_T, ltr_cnt, ltr_P, List.append_nil] at hr2
  have h2 : altP 1000 [joinK 2 (a.map oneN)] (b.map fun c => oneT c.toNat) 0 = some (.mk 3 noS 0 0 0 [joinK 2 (a.map oneN), joinK 2 (b.map oneN)], [], 0) := by
    rw [altP_next (f := 999) hr2, if_neg (by simp [headK])]
    rfl
  have h1 : altP 1001 [] ((a.map fun c => oneT c.toNat) ++ (Tok.of 6 :: b.map fun c => oneT c.toNat)) 0 = some (.mk 3 noS 0 0 0 [joinK 2 (a.map oneN), joinK 2 (b.map oneN)], [], 0) := by
    rw [altP_next (f := 1000) hr1, if_pos (by simp [headK, Tok.of])]
    exact h2
  unfold parseP
  rw [if_neg (by simp; omega), ht]
  simp only [h1, headK, if_true]
end Go.Proofs.Ytbehbbmhkkidfaa

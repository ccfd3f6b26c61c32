/-
  What a loss of power leaves of a journal, as plain lists: byte by byte what was written or a nought, what was synced whole; and what is taken of it. No condition.
-/
import Derived.Test.YtpfdlcogldbocaaModel
import Derived.Test.YtpfdlcogldbocaaRefCut1
namespace Go.Proofs.Ytpfdlcogldbocaa
open Go.RowKit Go.Maps

/-! ### what holds of each block's bytes is kept by laying, torn or not -/
def Tears (Good : Int → List UInt8 → Prop) : Prop := ∀ x a b k, k ≤ 32 → Good x a → Good x b → Good x (tear k a b)
theorem layTo_good {Good : Int → List UInt8 → Prop} (ht : Tears Good) {f : Int → Option (List UInt8)} (hf : ∀ x, Good x ((f x).getD zero32)) {cs : List CallM} (hc : ∀ c ∈ cs, c.sync = false → Good c.n c.bytes) {size : Nat → Nat} (hs : ∀ i, size i ≤ 32) :
    ∀ k, k ≤ cs.length → ∀ x, Good x ((layTo f cs size k x).getD zero32)
  | 0, _, x => hf x
  | k + 1, hk, x => by
    have ih := layTo_good ht hf hc hs k (by omega)
    have hcm : cs.getD k syncM ∈ cs := by
      rw [List.getD_eq_getElem?_getD, List.getElem?_eq_getElem (by omega)]
      exact List.getElem_mem _
    unfold layTo laid
    cases hsy : (cs.getD k syncM).sync with
    | true => exact ih x
    | false =>
      rw [if_neg (by simp)]
      by_cases hx : x = (cs.getD k syncM).n
      · rw [hx, upd_same]
        exact ht _ _ _ _ (hs k) (ih _) (hc _ hcm hsy)
      · rw [upd_other _ _ _ hx]
        exact ih x
theorem cutF_good {Good : Int → List UInt8 → Prop} (ht : Tears Good) {F : Int → Option (List UInt8)} (hF : ∀ x, Good x ((F x).getD zero32)) {dn : List CallM} (hc : ∀ c ∈ dn, c.sync = false → Good c.n c.bytes) {k : Nat} (hk : SyncAt dn k) (ks : List Bool) (torn : Int) (x : Int) :
    Good x ((cutF F dn k ks torn x).getD zero32) := by
  have h1 := hk.1
  refine layTo_good ht ?_ (fun c hcc hs => hc c (List.mem_of_mem_drop (keptM_mem _ _ c hcc)) hs) (fun i => sizes_le _ _ i) _ (Nat.le_refl _) x
  exact layTo_good ht hF (fun c hcc hs => hc c (List.mem_of_mem_take hcc) hs) (fun _ => Nat.le_refl _) k (by rw [List.length_take]; omega)
/-- .. where what was synced already is so, and what came behind. -/
theorem cutF_good2 {Good : Int → List UInt8 → Prop} (ht : Tears Good) {F : Int → Option (List UInt8)} {dn : List CallM} {k : Nat} (hk : SyncAt dn k) (hF : ∀ x, Good x (con F (dn.take k) x)) (hc : ∀ c ∈ dn.drop k, c.sync = false → Good c.n c.bytes) (ks : List Bool) (torn : Int) (x : Int) :
    Good x ((cutF F dn k ks torn x).getD zero32) := by
  have h1 := hk.1
  refine layTo_good ht (fun y => ?_) (fun c hcc hs => hc c (keptM_mem _ _ c hcc) hs) (fun i => sizes_le _ _ i) _ (Nat.le_refl _) x
  have := hF y
  unfold con at this
  rwa [List.length_take, Nat.min_eq_left h1] at this

/-! ### bytes of a text, or noughts -/
/-- Each of block x's bytes is the text's, or a nought; those ahead of L are the text's. -/
def TB (t : List UInt8) (f k L : Nat) (x : Int) (b : List UInt8) : Prop :=
  b.length = 32 ∧ ∀ j, j < 32 → (f : Int) ≤ x → x < ((f + k : Nat) : Int) → ∀ u, b[j]? = some u → (t[32 * (x.toNat - f) + j]? = some u ∨ u = 0) ∧ (32 * (x.toNat - f) + j < L → t[32 * (x.toNat - f) + j]? = some u)
theorem tear_get {a b : List UInt8} {k j : Nat} (_ha : a.length = 32) (hb : b.length = 32) (hk : k ≤ 32) : (tear k a b)[j]? = if j < k then b[j]? else a[j]? := by
  unfold tear
  by_cases h : j < k
  · rw [if_pos h, List.getElem?_append_left (by rw [List.length_take]; omega), List.getElem?_take, if_pos h]
  · rw [if_neg h, List.getElem?_append_right (by rw [List.length_take]; omega), List.getElem?_drop, List.length_take]
    congr 1
    omega
theorem TB.tears (t : List UInt8) (f k0 L : Nat) : Tears (TB t f k0 L) := fun x a b k hk ⟨ha, h1⟩ ⟨hb, h2⟩ => by
  refine ⟨length_tear ha hb hk, fun j hj hx hx2 u hu => ?_⟩
  rw [tear_get ha hb hk] at hu
  split at hu
  · exact h2 j hj hx hx2 u hu
  · exact h1 j hj hx hx2 u hu
/-- A region all of whose blocks are so. -/
theorem reg_TB {C : Int → List UInt8} {t : List UInt8} {f L k : Nat} (h : ∀ x, TB t f k L x (C x)) (p : Nat) (u : UInt8) (hp : (reg C f k)[p]? = some u) : (t[p]? = some u ∨ u = 0) ∧ (p < L → t[p]? = some u) := by
  have h32 : All32 C := fun x => (h x).1
  have hlt := (List.getElem?_eq_some_iff.1 hp).1
  rw [length_reg h32] at hlt
  have e : p = 32 * (p / 32) + p % 32 := by omega
  rw [e, reg_get h32 f k (p / 32) (p % 32) (by omega) (by omega)] at hp
  have := (h ((f + p / 32 : Nat) : Int)).2 (p % 32) (by omega) (by omega) (by omega) u hp
  rw [show (((f + p / 32 : Nat) : Int)).toNat - f = p / 32 by omega, ← e] at this
  exact this

/-! ### what is taken of such bytes -/
theorem scan_prefix : ∀ (a ls : List (List UInt8)) (r s : List UInt8), (∀ l ∈ a, RecOk l) → (∀ l ∈ ls, RecOk l) → takeE s ≠ 0 → frames a ++ r = frames ls ++ s → ∃ m, ls = a ++ m
  | [], ls, _, _, _, _, _, _ => ⟨ls, rfl⟩
  | l :: a, [], r, s, h, _, hs, e => by
    exfalso
    rw [frames_cons, List.append_assoc] at e
    have : s = frame l ++ (frames a ++ r) := by simpa [frames] using e.symm
    apply hs
    rw [this]
    exact (take_frame l _ (h l (by simp))).1
  | l :: a, l' :: ls, r, s, h, h', hs, e => by
    rw [frames_cons, List.append_assoc, frames_cons, List.append_assoc] at e
    obtain ⟨_, a2, _⟩ := take_frame l (frames a ++ r) (h l (by simp))
    obtain ⟨_, b2, _⟩ := take_frame l' (frames ls ++ s) (h' l' (by simp))
    rw [e, b2] at a2
    subst a2
    rw [List.append_cancel_left_eq] at e
    obtain ⟨m, hm⟩ := scan_prefix a ls r s (fun x hx => h x (by simp [hx])) (fun x hx => h' x (by simp [hx])) hs e
    exact ⟨m, by rw [hm]; rfl⟩
/-- What begins with the frames of a has these records at least. -/
theorem IsScan.begins {b : List UInt8} {ls a : List (List UInt8)} {n : Nat} (h : IsScan b ls n) (ha : ∀ l ∈ a, RecOk l) (hb : b.take (frames a).length = frames a) : ∃ m, ls = a ++ m := by
  obtain ⟨h1, h2, h3, h4⟩ := h
  refine scan_prefix a ls (b.drop (frames a).length) (b.drop n) ha h3 h4 ?_
  rw [← h2, List.take_append_drop]
  conv => lhs; rw [← hb]
  rw [List.length_take]
  by_cases hl : (frames a).length ≤ b.length
  · rw [Nat.min_eq_left hl, List.take_append_drop]
  · exfalso
    have := congrArg List.length hb
    rw [List.length_take] at this
    omega

/-- Is a record one that nobody wrote at its place? -/
def Strange (l all : List (List UInt8)) : Prop := ∃ (i : Nat) (x : List UInt8), l[i]? = some x ∧ all[i]? ≠ some x
theorem prefix_of_not_strange {l all : List (List UInt8)} (h : ¬ Strange l all) : l = all.take l.length := by
  refine List.ext_getElem? fun i => ?_
  by_cases hi : i < l.length
  · rw [List.getElem?_take, if_pos hi, List.getElem?_eq_getElem hi]
    apply Classical.byContradiction
    intro hn
    exact h ⟨i, _, List.getElem?_eq_getElem hi, fun e => hn e.symm⟩
  · rw [List.getElem?_eq_none (by omega), List.getElem?_eq_none (by rw [List.length_take]; omega)]
theorem frames_take_pre (all : List (List UInt8)) {m k : Nat} (h : m ≤ k) : ∃ r, frames (all.take k) = frames (all.take m) ++ r := by
  refine ⟨frames ((all.take k).drop m), ?_⟩
  unfold frames
  rw [← List.flatten_append, ← List.map_append, show all.take m = (all.take k).take m by rw [List.take_take, Nat.min_eq_left h], List.take_append_drop]

/-- THE LAW: of bytes that are the text's or noughts, and the text's ahead of L, and of what is left of them when they are zeroed behind their records: where no record is strange, the records are the same, and those ahead of L at least. -/
theorem keeps {all : List (List UInt8)} (hall : ∀ l ∈ all, RecOk l) {t X Y : List UInt8} {q : List UInt8} (ht : t = frames all ++ q) {s : Nat} (hs : s ≤ all.length)
    (hX : ∀ p u, X[p]? = some u → (t[p]? = some u ∨ u = 0) ∧ (p < (frames (all.take s)).length → t[p]? = some u)) (hXl : X.length = t.length)
    {was : List (List UInt8)} {n : Nat} (hw : IsScan X was n) (hY : ∀ p u, Y[p]? = some u → (X[p]? = some u ∨ u = 0) ∧ (p < n → X[p]? = some u)) (hYl : Y.length = X.length) {now : List (List UInt8)} {m : Nat} (hn : IsScan Y now m)
    (h1 : ¬ Strange was all) (h2 : ¬ Strange now all) : now = was ∧ s ≤ was.length := by
  have pre : ∀ (a b : List UInt8) (L : Nat), L ≤ a.length → L ≤ b.length → (∀ p u, p < L → a[p]? = some u → b[p]? = some u) → a.take L = b.take L := fun a b L ha hb h => by
    refine List.ext_getElem? fun p => ?_
    rw [List.getElem?_take, List.getElem?_take]
    split
    · rename_i hp
      rw [List.getElem?_eq_getElem (by omega : p < a.length)]
      exact (h p _ hp (List.getElem?_eq_getElem (by omega : p < a.length))).symm
    · rfl
  have hok : ∀ k, ∀ l ∈ all.take k, RecOk l := fun k l hl => hall l (List.mem_of_mem_take hl)
  have hfl : ∀ k, (frames (all.take k)).length ≤ (frames all).length := fun k => by
    obtain ⟨r, hr⟩ := frames_take_pre all (m := min k all.length) (k := all.length) (Nat.min_le_right _ _)
    rw [List.take_of_length_le (Nat.le_refl _), List.take_eq_take_min.symm] at hr
    rw [hr, List.length_append]
    omega
  have htl : t.length = (frames all).length + q.length := by rw [ht, List.length_append]
  have htk : ∀ k, t.take (frames (all.take k)).length = frames (all.take k) := fun k => by
    obtain ⟨r, hr⟩ := frames_take_pre all (m := min k all.length) (k := all.length) (Nat.min_le_right _ _)
    rw [List.take_of_length_le (Nat.le_refl _), List.take_eq_take_min.symm] at hr
    rw [ht, hr, List.append_assoc, List.take_left']
    rfl
  -- at least what was synced
  have hs1 : X.take (frames (all.take s)).length = frames (all.take s) :=
    (pre X t _ (by have := hfl s; omega) (by have := hfl s; omega) fun p u hp hu => (hX p u hu).2 hp).trans (htk s)
  obtain ⟨m1, hm1⟩ := hw.begins (hok s) hs1
  have hws : s ≤ was.length := by
    rw [hm1, List.length_append, List.length_take]
    omega
  refine ⟨?_, hws⟩
  have e1 := prefix_of_not_strange h1
  have e2 := prefix_of_not_strange h2
  have hwn : n = (frames was).length := by
    have := congrArg List.length hw.2.1
    rw [List.length_take] at this
    have := hw.1
    omega
  -- now has all that was
  have hy1 : Y.take (frames was).length = frames was := by
    have h3 := (pre Y X n (by have := hw.1; omega) hw.1 fun p u hp hu => (hY p u hu).2 hp).trans hw.2.1
    rwa [hwn] at h3
  obtain ⟨m2, hm2⟩ := hn.begins hw.2.2.1 hy1
  have hlen : now.length ≤ was.length := by
    apply Classical.byContradiction
    intro hc
    -- the record behind was whole already
    have hk : now.length ≤ all.length := by
      have := congrArg List.length e2
      rw [List.length_take] at this
      omega
    have hnf : Y.take (frames now).length = frames now := by
      have h3 := congrArg List.length hn.2.1
      rw [List.length_take] at h3
      have h4 := hn.1
      rw [show (frames now).length = m by omega]
      exact hn.2.1
    have hnl : (frames now).length ≤ X.length := by
      have h3 := congrArg List.length hn.2.1
      rw [List.length_take] at h3
      omega
    have hX2 : X.take (frames now).length = frames now := by
      have hT : t.take (frames now).length = frames now := by
        rw [e2]
        exact htk _
      refine (pre Y X _ (by omega) hnl fun p u hp hu => ?_).symm.trans hnf
      have hYt : t[p]? = some u := by
        have a1 : (Y.take (frames now).length)[p]? = some u := by rw [List.getElem?_take, if_pos hp]; exact hu
        rw [hnf, ← hT, List.getElem?_take, if_pos hp] at a1
        exact a1
      rcases (hY p u hu).1 with h | h
      · exact h
      · subst h
        obtain ⟨v, hv⟩ : ∃ v, X[p]? = some v := ⟨_, List.getElem?_eq_getElem (by omega)⟩
        rcases (hX p v hv).1 with h | h
        · rw [hYt] at h
          rw [hv, ← h]
        · rw [hv, h]
    obtain ⟨m3, hm3⟩ := hw.begins hn.2.2.1 hX2
    have := congrArg List.length hm3
    rw [List.length_append] at this
    omega
  have : m2 = [] := by
    have h3 := congrArg List.length hm2
    rw [List.length_append] at h3
    exact List.eq_nil_of_length_eq_zero (by omega)
  rw [hm2, this, List.append_nil]
end Go.Proofs.Ytpfdlcogldbocaa

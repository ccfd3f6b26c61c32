/-
  What the reference's Cut leaves, as a fold over the calls that are kept: it is what the calls laid one by one leave. Conditions: the calls are of 32 bytes.
-/
import Derived.Test.YtficckhhlhcogaaRef2
namespace Go.Proofs.Ytficckhhlhcogaa
open Go.RowKit Go.Maps

theorem rdTo_append (B : Int → List UInt8) (a b : List CallM) (x : Int) : ∀ k, k ≤ a.length → rdTo B (a ++ b) x k = rdTo B a x k
  | 0, _ => rfl
  | k + 1, hk => by
    have e : (a ++ b).getD k syncM = a.getD k syncM := by
      rw [List.getD_eq_getElem?_getD, List.getD_eq_getElem?_getD, List.getElem?_append_left (by omega)]
    show (if ((a ++ b).getD k syncM).sync = false ∧ ((a ++ b).getD k syncM).n = x then ((a ++ b).getD k syncM).bytes else rdTo B (a ++ b) x k) = _
    rw [e, rdTo_append B a b x k (by omega)]
    rfl
theorem rdTo_snoc (B : Int → List UInt8) (a : List CallM) (c : CallM) (x : Int) : rdTo B (a ++ [c]) x (a ++ [c]).length = if c.sync = false ∧ c.n = x then c.bytes else rdTo B a x a.length := by
  have e : (a ++ [c]).getD a.length syncM = c := by
    rw [List.getD_eq_getElem?_getD, List.getElem?_append_right (Nat.le_refl _), Nat.sub_self]; rfl
  rw [List.length_append]
  show (if ((a ++ [c]).getD a.length syncM).sync = false ∧ ((a ++ [c]).getD a.length syncM).n = x then ((a ++ [c]).getD a.length syncM).bytes else rdTo B (a ++ [c]) x a.length) = _
  rw [e, rdTo_append B a [c] x a.length (Nat.le_refl _)]

/-- The calls as they are kept: call i reaches the disk by its first 'size i' bytes. -/
def tornTo (B : Int → List UInt8) (kept : List CallM) (size : Nat → Nat) : Nat → List CallM
  | 0 => []
  | i + 1 => tornTo B kept size i ++ [⟨false, (kept.getD i syncM).n, tear (size i) (rdTo B (tornTo B kept size i) (kept.getD i syncM).n (tornTo B kept size i).length) (kept.getD i syncM).bytes⟩]
theorem tornTo_len (B : Int → List UInt8) (kept : List CallM) (size : Nat → Nat) : ∀ i, (tornTo B kept size i).length = i
  | 0 => rfl
  | i + 1 => by
    unfold tornTo
    rw [List.length_append, tornTo_len B kept size i]
    rfl
theorem rdTo_torn {B : Int → List UInt8} {D : Int → Option (List UInt8)} (hB : ∀ x, B x = (D x).getD zero32) {kept : List CallM} (hk : ∀ c ∈ kept, c.sync = false) (size : Nat → Nat) :
    ∀ i, i ≤ kept.length → ∀ x, rdTo B (tornTo B kept size i) x (tornTo B kept size i).length = (layTo D kept size i x).getD zero32
  | 0, _, x => hB x
  | i + 1, hi, x => by
    have ih := rdTo_torn hB hk size i (by omega)
    have hm : kept.getD i syncM ∈ kept := by rw [List.getD_eq_getElem?_getD, List.getElem?_eq_getElem (by omega)]; exact List.getElem_mem _
    have hs := hk _ hm
    have e : tornTo B kept size (i + 1) = tornTo B kept size i ++ [⟨false, (kept.getD i syncM).n, tear (size i) (rdTo B (tornTo B kept size i) (kept.getD i syncM).n (tornTo B kept size i).length) (kept.getD i syncM).bytes⟩] := rfl
    have e2 : layTo D kept size (i + 1) x = laid (layTo D kept size i) (kept.getD i syncM) (size i) x := rfl
    rw [e, rdTo_snoc, e2]
    unfold laid
    rw [hs, ih, ih]
    by_cases hx : (kept.getD i syncM).n = x
    · subst hx
      simp [upd_same]
    · have hx' : x ≠ (kept.getD i syncM).n := fun h => hx h.symm
      rw [if_neg (fun h => hx h.2), if_neg (by decide), upd_other _ _ _ hx']
theorem layTo_append (f : Int → Option (List UInt8)) (a b : List CallM) (size : Nat → Nat) : ∀ j, layTo f (a ++ b) size (a.length + j) = layTo (layTo f a size a.length) b (fun i => size (a.length + i)) j
  | 0 => by
    show layTo f (a ++ b) size a.length = layTo f a size a.length
    have key : ∀ k, k ≤ a.length → layTo f (a ++ b) size k = layTo f a size k := by
      intro k
      induction k with
      | zero => intro _; rfl
      | succ k ih =>
        intro hk
        have e : (a ++ b).getD k syncM = a.getD k syncM := by
          rw [List.getD_eq_getElem?_getD, List.getD_eq_getElem?_getD, List.getElem?_append_left (by omega)]
        show laid (layTo f (a ++ b) size k) ((a ++ b).getD k syncM) (size k) = laid (layTo f a size k) (a.getD k syncM) (size k)
        rw [e, ih (by omega)]
    exact key _ (Nat.le_refl _)
  | j + 1 => by
    have e : (a ++ b).getD (a.length + j) syncM = b.getD j syncM := by
      rw [List.getD_eq_getElem?_getD, List.getD_eq_getElem?_getD, List.getElem?_append_right (by omega), Nat.add_sub_cancel_left]
    show laid (layTo f (a ++ b) size (a.length + j)) ((a ++ b).getD (a.length + j) syncM) (size (a.length + j)) = laid (layTo (layTo f a size a.length) b (fun i => size (a.length + i)) j) (b.getD j syncM) (size (a.length + j))
    rw [e, layTo_append f a b size j]

/-- What counts of a row of calls is its writes. -/
theorem layTo_writes (f : Int → Option (List UInt8)) (cs : List CallM) : ∀ k, k ≤ cs.length → layTo f cs (fun _ => 32) k = layTo f ((cs.take k).filter (fun c => !c.sync)) (fun _ => 32) ((cs.take k).filter (fun c => !c.sync)).length
  | 0, _ => rfl
  | k + 1, hk => by
    have ih := layTo_writes f cs k (by omega)
    have e : cs.take (k + 1) = cs.take k ++ [cs.getD k syncM] := by
      rw [List.take_add_one, List.getD_eq_getElem?_getD, List.getElem?_eq_getElem (by omega)]; rfl
    show laid (layTo f cs (fun _ => 32) k) (cs.getD k syncM) 32 = _
    obtain ⟨c, hc⟩ : ∃ c, c = cs.getD k syncM := ⟨_, rfl⟩
    rw [← hc] at e ⊢
    rw [e, List.filter_append, ih]
    cases hs : c.sync with
    | true =>
      have e2 : [c].filter (fun c => !c.sync) = [] := by simp [hs]
      rw [laid_sync hs, e2, List.append_nil]
    | false =>
      have e2 : [c].filter (fun c => !c.sync) = [c] := by simp [hs]
      rw [e2, layTo_snoc]

/-! ### the loops of the reference's Cut -/
/-- The last Sync's number among the first i calls, or 0. -/
def safeTo (l : List CallM) : Nat → Nat
  | 0 => 0
  | i + 1 => if (l.getD i syncM).sync then i else safeTo l i
/-- How many writes from 'safe' on. -/
def othersTo (l : List CallM) (safe : Nat) : Nat → Nat
  | 0 => 0
  | i + 1 => if (l.getD i syncM).sync = false ∧ safe ≤ i then othersTo l safe i + 1 else othersTo l safe i
/-- What is kept of the first i calls. -/
def keepTo (l : List CallM) (safe : Nat) (ks : List Bool) : Nat → List CallM
  | 0 => []
  | i + 1 => if (l.getD i syncM).sync = false ∧ (i < safe ∨ ks.getD (othersTo l safe i) false = true) then keepTo l safe ks i ++ [l.getD i syncM] else keepTo l safe ks i
/-- Which of them is the last that was kept of the writes from 'safe' on, or -1. -/
def lastKept (l : List CallM) (safe : Nat) (ks : List Bool) : Nat → Int
  | 0 => -1
  | i + 1 => if (l.getD i syncM).sync = false ∧ safe ≤ i ∧ ks.getD (othersTo l safe i) false = true then ((keepTo l safe ks i).length : Int) else lastKept l safe ks i

theorem othersTo_succ (l : List CallM) (safe i : Nat) : othersTo l safe (i + 1) = if (l.getD i syncM).sync = false ∧ safe ≤ i then othersTo l safe i + 1 else othersTo l safe i := rfl
theorem keepTo_succ (l : List CallM) (safe : Nat) (ks : List Bool) (i : Nat) : keepTo l safe ks (i + 1) = if (l.getD i syncM).sync = false ∧ (i < safe ∨ ks.getD (othersTo l safe i) false = true) then keepTo l safe ks i ++ [l.getD i syncM] else keepTo l safe ks i := rfl
theorem lastKept_succ (l : List CallM) (safe : Nat) (ks : List Bool) (i : Nat) : lastKept l safe ks (i + 1) = if (l.getD i syncM).sync = false ∧ safe ≤ i ∧ ks.getD (othersTo l safe i) false = true then ((keepTo l safe ks i).length : Int) else lastKept l safe ks i := rfl

theorem safe_of {l : List CallM} {k : Nat} (h : SyncAt l k) : safeTo l l.length = k - 1 := by
  obtain ⟨h1, h2, h3⟩ := h
  have key : ∀ i, i ≤ l.length → k ≤ i → safeTo l i = k - 1 := by
    intro i
    induction i with
    | zero => intro _ hk; have : k = 0 := by omega
              subst this; rfl
    | succ i ih =>
      intro hi hk
      have hg : l[i]? = some (l.getD i syncM) := by rw [List.getD_eq_getElem?_getD, List.getElem?_eq_getElem (by omega)]; rfl
      unfold safeTo
      rcases Nat.lt_or_ge i k with hik | hik
      · have hki : k = i + 1 := by omega
        obtain ⟨c, hc, hs⟩ := h3 (by omega)
        rw [hki, Nat.add_sub_cancel, hg] at hc
        injection hc with hc
        rw [hc, if_pos hs]
        omega
      · rw [h2 i _ hik hg, if_neg (by decide)]
        exact ih (by omega) hik
  exact key _ (Nat.le_refl _) h1

theorem layTo_congr (f : Int → Option (List UInt8)) (cs : List CallM) {s t : Nat → Nat} : ∀ k, (∀ i, i < k → s i = t i) → layTo f cs s k = layTo f cs t k
  | 0, _ => rfl
  | k + 1, h => by
    show laid (layTo f cs s k) (cs.getD k syncM) (s k) = laid (layTo f cs t k) (cs.getD k syncM) (t k)
    rw [layTo_congr f cs k (fun i hi => h i (by omega)), h k (by omega)]
theorem keptTo_all (ws : List CallM) (ks : List Bool) : ∀ j, keptTo ws ks j = keptTo ws ks (min j ks.length)
  | 0 => by rw [Nat.zero_min]
  | j + 1 => by
    rcases Nat.lt_or_ge j ks.length with h | h
    · rw [Nat.min_eq_left (by omega)]
    · have ih := keptTo_all ws ks j
      rw [Nat.min_eq_right h] at ih
      rw [Nat.min_eq_right (by omega), ← ih]
      show keptTo ws ks j ++ (if ks.getD j false then _ else _) = _
      have e : ks.getD j false = false := by rw [List.getD_eq_getElem?_getD, List.getElem?_eq_none h]; rfl
      rw [e, if_neg (by decide), List.append_nil]

/-- Up to the last Sync all writes are kept. -/
theorem keep_before {l : List CallM} {k : Nat} (h : SyncAt l k) (ks : List Bool) : ∀ i, i ≤ k → keepTo l (k - 1) ks i = (l.take i).filter (fun c => !c.sync) ∧ othersTo l (k - 1) i = 0 ∧ lastKept l (k - 1) ks i = -1
  | 0, _ => ⟨rfl, rfl, rfl⟩
  | i + 1, hi => by
    obtain ⟨h1, h2, h3⟩ := h
    obtain ⟨e1, e2, e3⟩ := keep_before ⟨h1, h2, h3⟩ ks i (by omega)
    have hg : l[i]? = some (l.getD i syncM) := by rw [List.getD_eq_getElem?_getD, List.getElem?_eq_getElem (by omega)]; rfl
    have e : l.take (i + 1) = l.take i ++ [l.getD i syncM] := by rw [List.take_add_one, hg]; rfl
    have hlast : i = k - 1 → (l.getD i syncM).sync = true := fun hik => by
      obtain ⟨c, hc, hs⟩ := h3 (by omega)
      rw [← hik, hg] at hc
      injection hc with hc
      rw [hc]; exact hs
    unfold keepTo othersTo lastKept
    rw [e, List.filter_append, e1, e2, e3]
    obtain ⟨c, hc⟩ : ∃ c, c = l.getD i syncM := ⟨_, rfl⟩
    rw [← hc] at hlast ⊢
    cases hs : c.sync with
    | true =>
      have e4 : [c].filter (fun c => !c.sync) = [] := by simp [hs]
      rw [e4, List.append_nil, if_neg (by simp), if_neg (by simp), if_neg (by simp)]
      exact ⟨rfl, rfl, rfl⟩
    | false =>
      have e4 : [c].filter (fun c => !c.sync) = [c] := by simp [hs]
      have hik : i < k - 1 := by
        rcases Nat.lt_or_ge i (k - 1) with h | h
        · exact h
        · have := hlast (by omega)
          rw [hs] at this; cases this
      rw [e4, if_pos ⟨rfl, .inl hik⟩, if_neg (fun h => by omega), if_neg (fun h => by omega)]
      exact ⟨rfl, rfl, rfl⟩
/-- Behind it those that are picked. -/
theorem keep_behind {l : List CallM} {k : Nat} (h : SyncAt l k) (ks : List Bool) : ∀ j, k + j ≤ l.length →
    keepTo l (k - 1) ks (k + j) = (l.take k).filter (fun c => !c.sync) ++ keptTo (l.drop k) ks j ∧ othersTo l (k - 1) (k + j) = j ∧
      lastKept l (k - 1) ks (k + j) = if keptTo (l.drop k) ks j = [] then -1 else ((((l.take k).filter (fun c => !c.sync)).length + (keptTo (l.drop k) ks j).length : Nat) : Int) - 1
  | 0, _ => by
    obtain ⟨e1, e2, e3⟩ := keep_before h ks k (Nat.le_refl _)
    exact ⟨by rw [Nat.add_zero, e1]; exact (List.append_nil _).symm, e2, by rw [Nat.add_zero, e3]; rfl⟩
  | j + 1, hj => by
    obtain ⟨e1, e2, e3⟩ := keep_behind h ks j (by omega)
    obtain ⟨h1, h2, h3⟩ := h
    have hg : l[k + j]? = some (l.getD (k + j) syncM) := by rw [List.getD_eq_getElem?_getD, List.getElem?_eq_getElem (by omega)]; rfl
    have hs := h2 (k + j) _ (by omega) hg
    have e5 : (l.drop k).getD j syncM = l.getD (k + j) syncM := by rw [List.getD_eq_getElem?_getD, List.getElem?_drop, ← List.getD_eq_getElem?_getD]
    have e6 : keptTo (l.drop k) ks (j + 1) = keptTo (l.drop k) ks j ++ (if ks.getD j false then [l.getD (k + j) syncM] else []) := by
      show keptTo (l.drop k) ks j ++ (if ks.getD j false then [(l.drop k).getD j syncM] else []) = _
      rw [e5]
    rw [← Nat.add_assoc]
    rw [keepTo_succ, othersTo_succ, lastKept_succ]
    rw [e6, e1, e2, e3, hs]
    have hle : k - 1 ≤ k + j := by omega
    have hnl : ¬ (k + j < k - 1) := by omega
    clear e1 e2 e3 e5 e6 hs hg
    generalize (l.take k).filter (fun c => !c.sync) = A
    generalize keptTo (l.drop k) ks j = K
    generalize l.getD (k + j) syncM = c
    generalize ks.getD j false = b
    cases b with
    | true =>
      simp [hle]
      omega
    | false =>
      simp [hnl]
      omega

/-- What the reference keeps, laid one by one, is what a loss of power leaves. -/
theorem cut_same (D : Int → Option (List UInt8)) {l : List CallM} {k : Nat} (h : SyncAt l k) (ks : List Bool) (torn : Int) :
    layTo D (keepTo l (k - 1) ks l.length) (fun i => if (i : Int) = lastKept l (k - 1) ks l.length then red torn 33 else 32) (keepTo l (k - 1) ks l.length).length = cutF D l k ks torn := by
  have hk := h.1
  obtain ⟨e1, _, e3⟩ := keep_behind h ks (l.length - k) (by omega)
  rw [Nat.add_sub_of_le hk] at e1 e3
  have eM : keptTo (l.drop k) ks (l.length - k) = keptM (l.drop k) ks := by
    unfold keptM
    rw [keptTo_all, List.length_drop]
  rw [eM] at e1 e3
  rw [e1, List.length_append, layTo_append]
  unfold cutF
  obtain ⟨A, hA⟩ : ∃ A, A = (l.take k).filter (fun c => !c.sync) := ⟨_, rfl⟩
  obtain ⟨K, hK⟩ : ∃ K, K = keptM (l.drop k) ks := ⟨_, rfl⟩
  have eT : layTo D (l.take k) (fun _ => 32) k = layTo D A (fun _ => 32) A.length := by
    have := layTo_writes D (l.take k) k (by rw [List.length_take]; omega)
    rw [List.take_take, Nat.min_self, ← hA] at this
    exact this
  rw [eT]
  rw [← hA, ← hK] at e3 ⊢
  have s1 : ∀ i, i < A.length → (if (i : Int) = lastKept l (k - 1) ks l.length then red torn 33 else 32) = 32 := fun i hi => by
    rw [e3]
    by_cases hn : K = []
    · rw [if_pos hn, if_neg (by omega)]
    · have : 0 < K.length := List.length_pos_iff.2 hn
      rw [if_neg hn, if_neg (by omega)]
  have s2 : ∀ i, i < K.length → (if ((A.length + i : Nat) : Int) = lastKept l (k - 1) ks l.length then red torn 33 else 32) = sizes K.length torn i := fun i hi => by
    have hn : K ≠ [] := List.length_pos_iff.1 (by omega)
    rw [e3, if_neg hn]
    unfold sizes
    by_cases hi1 : i + 1 = K.length
    · rw [if_pos hi1, if_pos (by omega)]
    · rw [if_neg hi1, if_neg (by omega)]
  rw [layTo_congr D A A.length s1, layTo_congr _ K K.length s2]
end Go.Proofs.Ytficckhhlhcogaa

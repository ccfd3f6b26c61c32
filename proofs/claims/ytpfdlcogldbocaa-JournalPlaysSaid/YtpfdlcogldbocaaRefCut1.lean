/-
  What the reference's Cut leaves, as a fold over the calls that are kept: it is what the calls laid one by one leave. Conditions: the calls are of 32 bytes.
  The two last loops of the reference's Cut, as facts of worlds: the disk that takes the kept calls, one by one, and the one that reads it. Conditions: those named at each law.
-/
import Derived.Test.YtpfdlcogldbocaaRef1
import Derived.Test.YtpfdlcogldbocaaStep
import Derived.Test.YtpfdlcogldbocaaRef4
namespace Go.Proofs.Ytpfdlcogldbocaa
open Go.RowKit Go.Maps

theorem rdTo_append (B : Int → List UInt8) (a b : List CallM) (x : Int) : ∀ k, k ≤ a.length → rdTo B (a ++ b) x k = rdTo B a x k
  | 0, _ => rfl
  | k + 1, hk => by
    have e : (a ++ b).getD k syncM = a.getD k syncM := by
      rw [List.getD_eq_getElem?_getD, List.getD_eq_getElem?_getD, List.getElem?_append_left (by omega)]
    show (if ((a ++ b).getD k syncM).sync = false ∧ ((a ++ b).getD k syncM).n = x then ((a ++ b).getD k syncM).bytes else rdTo B (a ++ b) x k) = _
    rw [e, rdTo_append B a b x k (by omega)]
    rfl
theorem rdTo_snoc (B : Int → List UInt8) (a : List CallM) (c : CallM) (x : Int) : rdTo B (a ++ [c]) x (a ++ [c]).length = if c.sync = false ∧ c.n = x then c.bytes else rdTo B a x a.length := by
  have e : (a ++ [c]).getD a.length syncM = c := by
    rw [List.getD_eq_getElem?_getD, List.getElem?_append_right (Nat.le_refl _), Nat.sub_self]; rfl
  rw [List.length_append]
  show (if ((a ++ [c]).getD a.length syncM).sync = false ∧ ((a ++ [c]).getD a.length syncM).n = x then ((a ++ [c]).getD a.length syncM).bytes else rdTo B (a ++ [c]) x a.length) = _
  rw [e, rdTo_append B a [c] x a.length (Nat.le_refl _)]

/-- The calls as they are kept: call i reaches the disk by its first 'size i' bytes. -/
def tornTo (B : Int → List UInt8) (kept : List CallM) (size : Nat → Nat) : Nat → List CallM
  | 0 => []
  | i + 1 => tornTo B kept size i ++ [⟨false, (kept.getD i syncM).n, tear (size i) (rdTo B (tornTo B kept size i) (kept.getD i syncM).n (tornTo B kept size i).length) (kept.getD i syncM).bytes⟩]
theorem tornTo_len (B : Int → List UInt8) (kept : List CallM) (size : Nat → Nat) : ∀ i, (tornTo B kept size i).length = i
  | 0 => rfl
  | i + 1 => by
    unfold tornTo
    rw [List.length_append, tornTo_len B kept size i]
    rfl
theorem rdTo_torn {B : Int → List UInt8} {D : Int → Option (List UInt8)} (hB : ∀ x, B x = (D x).getD zero32) {kept : List CallM} (hk : ∀ c ∈ kept, c.sync = false) (size : Nat → Nat) :
    ∀ i, i ≤ kept.length → ∀ x, rdTo B (tornTo B kept size i) x (tornTo B kept size i).length = (layTo D kept size i x).getD zero32
  | 0, _, x => hB x
  | i + 1, hi, x => by
    have ih := rdTo_torn hB hk size i (by omega)
    have hm : kept.getD i syncM ∈ kept := by rw [List.getD_eq_getElem?_getD, List.getElem?_eq_getElem (by omega)]; exact List.getElem_mem _
    have hs := hk _ hm
    have e : tornTo B kept size (i + 1) = tornTo B kept size i ++ [⟨false, (kept.getD i syncM).n, tear (size i) (rdTo B (tornTo B kept size i) (kept.getD i syncM).n (tornTo B kept size i).length) (kept.getD i syncM).bytes⟩] := rfl
    have e2 : layTo D kept size (i + 1) x = laid (layTo D kept size i) (kept.getD i syncM) (size i) x := rfl
    rw [e, rdTo_snoc, e2]
    unfold laid
    rw [hs, ih, ih]
    by_cases hx : (kept.getD i syncM).n = x
    · subst hx
      simp [upd_same]
    · have hx' : x ≠ (kept.getD i syncM).n := fun h => hx h.symm
      rw [if_neg (fun h => hx h.2), if_neg (by decide), upd_other _ _ _ hx']
theorem layTo_append (f : Int → Option (List UInt8)) (a b : List CallM) (size : Nat → Nat) : ∀ j, layTo f (a ++ b) size (a.length + j) = layTo (layTo f a size a.length) b (fun i => size (a.length + i)) j
  | 0 => by
    show layTo f (a ++ b) size a.length = layTo f a size a.length
    have key : ∀ k, k ≤ a.length → layTo f (a ++ b) size k = layTo f a size k := by
      intro k
      induction k with
      | zero => intro _; rfl
      | succ k ih =>
        intro hk
        have e : (a ++ b).getD k syncM = a.getD k syncM := by
          rw [List.getD_eq_getElem?_getD, List.getD_eq_getElem?_getD, List.getElem?_append_left (by omega)]
        show laid (layTo f (a ++ b) size k) ((a ++ b).getD k syncM) (size k) = laid (layTo f a size k) (a.getD k syncM) (size k)
        rw [e, ih (by omega)]
    exact key _ (Nat.le_refl _)
  | j + 1 => by
    have e : (a ++ b).getD (a.length + j) syncM = b.getD j syncM := by
      rw [List.getD_eq_getElem?_getD, List.getD_eq_getElem?_getD, List.getElem?_append_right (by omega), Nat.add_sub_cancel_left]
    show laid (layTo f (a ++ b) size (a.length + j)) ((a ++ b).getD (a.length + j) syncM) (size (a.length + j)) = laid (layTo (layTo f a size a.length) b (fun i => size (a.length + i)) j) (b.getD j syncM) (size (a.length + j))
    rw [e, layTo_append f a b size j]

/-- What counts of a row of calls is its writes. -/
theorem layTo_writes (f : Int → Option (List UInt8)) (cs : List CallM) : ∀ k, k ≤ cs.length → layTo f cs (fun _ => 32) k = layTo f ((cs.take k).filter (fun c => !c.sync)) (fun _ => 32) ((cs.take k).filter (fun c => !c.sync)).length
  | 0, _ => rfl
  | k + 1, hk => by
    have ih := layTo_writes f cs k (by omega)
    have e : cs.take (k + 1) = cs.take k ++ [cs.getD k syncM] := by
      rw [List.take_add_one, List.getD_eq_getElem?_getD, List.getElem?_eq_getElem (by omega)]; rfl
    show laid (layTo f cs (fun _ => 32) k) (cs.getD k syncM) 32 = _
    obtain ⟨c, hc⟩ : ∃ c, c = cs.getD k syncM := ⟨_, rfl⟩
    rw [← hc] at e ⊢
    rw [e, List.filter_append, ih]
    cases hs : c.sync with
    | true =>
      have e2 : [c].filter (fun c => !c.sync) = [] := by simp [hs]
      rw [laid_sync hs, e2, List.append_nil]
    | false =>
      have e2 : [c].filter (fun c => !c.sync) = [c] := by simp [hs]
      rw [e2, layTo_snoc]

/-! ### the loops of the reference's Cut -/
/-- The last Sync's number among the first i calls, or 0. -/
def safeTo (l : List CallM) : Nat → Nat
  | 0 => 0
  | i + 1 => if (l.getD i syncM).sync then i else safeTo l i
/-- How many writes from 'safe' on. -/
def othersTo (l : List CallM) (safe : Nat) : Nat → Nat
  | 0 => 0
  | i + 1 => if (l.getD i syncM).sync = false ∧ safe ≤ i then othersTo l safe i + 1 else othersTo l safe i
/-- What is kept of the first i calls. -/
def keepTo (l : List CallM) (safe : Nat) (ks : List Bool) : Nat → List CallM
  | 0 => []
  | i + 1 => if (l.getD i syncM).sync = false ∧ (i < safe ∨ ks.getD (othersTo l safe i) false = true) then keepTo l safe ks i ++ [l.getD i syncM] else keepTo l safe ks i
/-- Which of them is the last that was kept of the writes from 'safe' on, or -1. -/
def lastKept (l : List CallM) (safe : Nat) (ks : List Bool) : Nat → Int
  | 0 => -1
  | i + 1 => if (l.getD i syncM).sync = false ∧ safe ≤ i ∧ ks.getD (othersTo l safe i) false = true then ((keepTo l safe ks i).length : Int) else lastKept l safe ks i

theorem othersTo_succ (l : List CallM) (safe i : Nat) : othersTo l safe (i + 1) = if (l.getD i syncM).sync = false ∧ safe ≤ i then othersTo l safe i + 1 else othersTo l safe i := rfl
theorem keepTo_succ (l : List CallM) (safe : Nat) (ks : List Bool) (i : Nat) : keepTo l safe ks (i + 1) = if (l.getD i syncM).sync = false ∧ (i < safe ∨ ks.getD (othersTo l safe i) false = true) then keepTo l safe ks i ++ [l.getD i syncM] else keepTo l safe ks i := rfl
theorem lastKept_succ (l : List CallM) (safe : Nat) (ks : List Bool) (i : Nat) : lastKept l safe ks (i + 1) = if (l.getD i syncM).sync = false ∧ safe ≤ i ∧ ks.getD (othersTo l safe i) false = true then ((keepTo l safe ks i).length : Int) else lastKept l safe ks i := rfl

theorem safe_of {l : List CallM} {k : Nat} (h : SyncAt l k) : safeTo l l.length = k - 1 := by
  obtain ⟨h1, h2, h3⟩ := h
  have key : ∀ i, i ≤ l.length → k ≤ i → safeTo l i = k - 1 := by
    intro i
    induction i with
    | zero => intro _ hk; have : k = 0 := by omega
              subst this; rfl
    | succ i ih =>
      intro hi hk
      have hg : l[i]? = some (l.getD i syncM) := by rw [List.getD_eq_getElem?_getD, List.getElem?_eq_getElem (by omega)]; rfl
      unfold safeTo
      rcases Nat.lt_or_ge i k with hik | hik
      · have hki : k = i + 1 := by omega
        obtain ⟨c, hc, hs⟩ := h3 (by omega)
        rw [hki, Nat.add_sub_cancel, hg] at hc
        injection hc with hc
        rw [hc, if_pos hs]
        omega
      · rw [h2 i _ hik hg, if_neg (by decide)]
        exact ih (by omega) hik
  exact key _ (Nat.le_refl _) h1

theorem layTo_congr (f : Int → Option (List UInt8)) (cs : List CallM) {s t : Nat → Nat} : ∀ k, (∀ i, i < k → s i = t i) → layTo f cs s k = layTo f cs t k
  | 0, _ => rfl
  | k + 1, h => by
    show laid (layTo f cs s k) (cs.getD k syncM) (s k) = laid (layTo f cs t k) (cs.getD k syncM) (t k)
    rw [layTo_congr f cs k (fun i hi => h i (by omega)), h k (by omega)]
theorem keptTo_all (ws : List CallM) (ks : List Bool) : ∀ j, keptTo ws ks j = keptTo ws ks (min j ks.length)
  | 0 => by rw [Nat.zero_min]
  | j + 1 => by
    rcases Nat.lt_or_ge j ks.length with h | h
    · rw [Nat.min_eq_left (by omega)]
    · have ih := keptTo_all ws ks j
      rw [Nat.min_eq_right h] at ih
      rw [Nat.min_eq_right (by omega), ← ih]
      show keptTo ws ks j ++ (if ks.getD j false then _ else _) = _
      have e : ks.getD j false = false := by rw [List.getD_eq_getElem?_getD, List.getElem?_eq_none h]; rfl
      rw [e, if_neg (by decide), List.append_nil]

/-- Up to the last Sync all writes are kept. -/
theorem keep_before {l : List CallM} {k : Nat} (h : SyncAt l k) (ks : List Bool) : ∀ i, i ≤ k → keepTo l (k - 1) ks i = (l.take i).filter (fun c => !c.sync) ∧ othersTo l (k - 1) i = 0 ∧ lastKept l (k - 1) ks i = -1
  | 0, _ => ⟨rfl, rfl, rfl⟩
  | i + 1, hi => by
    obtain ⟨h1, h2, h3⟩ := h
    obtain ⟨e1, e2, e3⟩ := keep_before ⟨h1, h2, h3⟩ ks i (by omega)
    have hg : l[i]? = some (l.getD i syncM) := by rw [List.getD_eq_getElem?_getD, List.getElem?_eq_getElem (by omega)]; rfl
    have e : l.take (i + 1) = l.take i ++ [l.getD i syncM] := by rw [List.take_add_one, hg]; rfl
    have hlast : i = k - 1 → (l.getD i syncM).sync = true := fun hik => by
      obtain ⟨c, hc, hs⟩ := h3 (by omega)
      rw [← hik, hg] at hc
      injection hc with hc
      rw [hc]; exact hs
    unfold keepTo othersTo lastKept
    rw [e, List.filter_append, e1, e2, e3]
    obtain ⟨c, hc⟩ : ∃ c, c = l.getD i syncM := ⟨_, rfl⟩
    rw [← hc] at hlast ⊢
    cases hs : c.sync with
    | true =>
      have e4 : [c].filter (fun c => !c.sync) = [] := by simp [hs]
      rw [e4, List.append_nil, if_neg (by simp), if_neg (by simp), if_neg (by simp)]
      exact ⟨rfl, rfl, rfl⟩
    | false =>
      have e4 : [c].filter (fun c => !c.sync) = [c] := by simp [hs]
      have hik : i < k - 1 := by
        rcases Nat.lt_or_ge i (k - 1) with h | h
        · exact h
        · have := hlast (by omega)
          rw [hs] at this; cases this
      rw [e4, if_pos ⟨rfl, .inl hik⟩, if_neg (fun h => by omega), if_neg (fun h => by omega)]
      exact ⟨rfl, rfl, rfl⟩
/-- Behind it those that are picked. -/
theorem keep_behind {l : List CallM} {k : Nat} (h : SyncAt l k) (ks : List Bool) : ∀ j, k + j ≤ l.length →
    keepTo l (k - 1) ks (k + j) = (l.take k).filter (fun c => !c.sync) ++ keptTo (l.drop k) ks j ∧ othersTo l (k - 1) (k + j) = j ∧
      lastKept l (k - 1) ks (k + j) = if keptTo (l.drop k) ks j = [] then -1 else ((((l.take k).filter (fun c => !c.sync)).length + (keptTo (l.drop k) ks j).length : Nat) : Int) - 1
  | 0, _ => by
    obtain ⟨e1, e2, e3⟩ := keep_before h ks k (Nat.le_refl _)
    exact ⟨by rw [Nat.add_zero, e1]; exact (List.append_nil _).symm, e2, by rw [Nat.add_zero, e3]; rfl⟩
  | j + 1, hj => by
    obtain ⟨e1, e2, e3⟩ := keep_behind h ks j (by omega)
    obtain ⟨h1, h2, h3⟩ := h
    have hg : l[k + j]? = some (l.getD (k + j) syncM) := by rw [List.getD_eq_getElem?_getD, List.getElem?_eq_getElem (by omega)]; rfl
    have hs := h2 (k + j) _ (by omega) hg
    have e5 : (l.drop k).getD j syncM = l.getD (k + j) syncM := by rw [List.getD_eq_getElem?_getD, List.getElem?_drop, ← List.getD_eq_getElem?_getD]
    have e6 : keptTo (l.drop k) ks (j + 1) = keptTo (l.drop k) ks j ++ (if ks.getD j false then [l.getD (k + j) syncM] else []) := by
      show keptTo (l.drop k) ks j ++ (if ks.getD j false then [(l.drop k).getD j syncM] else []) = _
      rw [e5]
    rw [← Nat.add_assoc]
    rw [keepTo_succ, othersTo_succ, lastKept_succ]
    rw [e6, e1, e2, e3, hs]
    have hle : k - 1 ≤ k + j := by omega
    have hnl : ¬ (k + j < k - 1) := by omega
    clear e1 e2 e3 e5 e6 hs hg
    generalize (l.take k).filter (fun c => !c.sync) = A
    generalize keptTo (l.drop k) ks j = K
    generalize l.getD (k + j) syncM = c
    generalize ks.getD j false = b
    cases b with
    | true =>
      simp [hle]
      omega
    | false =>
      simp [hnl]
      omega

/-- What the reference keeps, laid one by one, is what a loss of power leaves. -/
theorem cut_same (D : Int → Option (List UInt8)) {l : List CallM} {k : Nat} (h : SyncAt l k) (ks : List Bool) (torn : Int) :
    layTo D (keepTo l (k - 1) ks l.length) (fun i => if (i : Int) = lastKept l (k - 1) ks l.length then red torn 33 else 32) (keepTo l (k - 1) ks l.length).length = cutF D l k ks torn := by
  have hk := h.1
  obtain ⟨e1, _, e3⟩ := keep_behind h ks (l.length - k) (by omega)
  rw [Nat.add_sub_of_le hk] at e1 e3
  have eM : keptTo (l.drop k) ks (l.length - k) = keptM (l.drop k) ks := by
    unfold keptM
    rw [keptTo_all, List.length_drop]
  rw [eM] at e1 e3
  rw [e1, List.length_append, layTo_append]
  unfold cutF
  obtain ⟨A, hA⟩ : ∃ A, A = (l.take k).filter (fun c => !c.sync) := ⟨_, rfl⟩
  obtain ⟨K, hK⟩ : ∃ K, K = keptM (l.drop k) ks := ⟨_, rfl⟩
  have eT : layTo D (l.take k) (fun _ => 32) k = layTo D A (fun _ => 32) A.length := by
    have := layTo_writes D (l.take k) k (by rw [List.length_take]; omega)
    rw [List.take_take, Nat.min_self, ← hA] at this
    exact this
  rw [eT]
  rw [← hA, ← hK] at e3 ⊢
  have s1 : ∀ i, i < A.length → (if (i : Int) = lastKept l (k - 1) ks l.length then red torn 33 else 32) = 32 := fun i hi => by
    rw [e3]
    by_cases hn : K = []
    · rw [if_pos hn, if_neg (by omega)]
    · have : 0 < K.length := List.length_pos_iff.2 hn
      rw [if_neg hn, if_neg (by omega)]
  have s2 : ∀ i, i < K.length → (if ((A.length + i : Nat) : Int) = lastKept l (k - 1) ks l.length then red torn 33 else 32) = sizes K.length torn i := fun i hi => by
    have hn : K ≠ [] := List.length_pos_iff.1 (by omega)
    rw [e3, if_neg hn]
    unfold sizes
    by_cases hi1 : i + 1 = K.length
    · rw [if_pos hi1, if_pos (by omega)]
    · rw [if_neg hi1, if_neg (by omega)]
  rw [layTo_congr D A A.length s1, layTo_congr _ K K.length s2]
end Go.Proofs.Ytpfdlcogldbocaa

namespace Go.Proofs.Ytpfdlcogldbocaa
open Go.RowKit Go.Maps Go.Deep

theorem keepTo_mem (l : List CallM) (safe : Nat) (ks : List Bool) : ∀ i, i ≤ l.length → ∀ c ∈ keepTo l safe ks i, c ∈ l ∧ c.sync = false
  | 0, _, c, h => by cases h
  | i + 1, hi, c, h => by
    have ih := keepTo_mem l safe ks i (by omega)
    rw [keepTo_succ] at h
    split at h
    · rename_i hc
      rcases List.mem_append.1 h with h | h
      · exact ih c h
      · have e : c = l.getD i syncM := by simpa using h
        rw [e]
        refine ⟨?_, hc.1⟩
        rw [List.getD_eq_getElem?_getD, List.getElem?_eq_getElem (by omega)]
        exact List.getElem_mem _
    · exact ih c h

theorem kept_cells {w : World} {Y : Nat → Prop} {base : Nat} {KA : Option Addr} {kcp : Nat} {kp : List CallM} {rows : List Value} (hown : w.ownsRow base 79 2 (.slice KA kp.length kcp) kp.length rows) (hlike : RefLike w Y kp rows) {i : Nat} {c : CallM} (hc : kp[i]? = some c) (hs : c.sync = false) :
    ∃ kg A cap, KA = some ⟨kg, 0, none⟩ ∧ w.cell? ⟨kg, i * 2, none⟩ = some (.int .i64 c.n) ∧ w.cell? ⟨kg, i * 2 + 1, none⟩ = some (.slice A 32 cap) ∧ BSb w Y A cap c.bytes := by
  obtain ⟨v, h1, h2, h3⟩ := hlike i c hc
  have hi := (List.getElem?_eq_some_iff.1 hc).1
  obtain ⟨kg, cap', e, _⟩ := hown.form (by omega)
  injection e with e1 e2 e3
  subst e1
  obtain ⟨A, cap, rfl, hb⟩ := h3 hs
  refine ⟨kg, A, cap, rfl, ?_, ?_, hb⟩
  · have := hown.cells (g := kg) rfl _ _ h1
    rw [Addr.add_mid, Nat.zero_add, hs] at this
    exact this
  · have := hown.cells (g := kg) rfl _ _ h2
    rw [Addr.add_mid, Nat.zero_add] at this
    exact this

/-- How far the disk x is, behind i of the kept calls. -/
def XRel (w : World) (Y : Nat → Prop) (px n : Nat) (vB kv : Value) (rows : List Value) (B : Int → List UInt8) (kp : List CallM) (size : Nat → Nat) (i : Nat) (wr : World) : Prop :=
  ∃ vLx Y', RefIs wr Y' px n vB vLx B (tornTo B kp size i) ∧ (∀ j, Y j → Y' j) ∧ (∀ j, Y' j → ¬ refFoot px vB vLx j ∧ j < wr.heap.size) ∧ (∀ j, Y' j → Y j ∨ w.heap.size ≤ j) ∧ (∀ k, vLx.ownBlock = some k → px < k) ∧ Below w.heap.size w wr ∧
    wr.ownsRow w.heap.size 79 2 kv kp.length rows ∧ RefLike wr Y kp rows

theorem Turned.more {S T : Nat → Prop} {a b : World} (h : Turned S a b) (hT : ∀ i, S i → T i) : Turned T a b :=
  ⟨h.os, h.tape, h.output, h.size, fun i hi hn => h.block i hi (fun e => hn (hT i e))⟩
theorem tornTo_snoc (B : Int → List UInt8) (kp : List CallM) (size : Nat → Nat) {i : Nat} {c : CallM} (hc : kp[i]? = some c) {l : List UInt8} (hl : tear (size i) (rdTo B (tornTo B kp size i) c.n (tornTo B kp size i).length) c.bytes = l) :
    tornTo B kp size (i + 1) = tornTo B kp size i ++ [⟨false, c.n, l⟩] := by
  have e : kp.getD i syncM = c := by rw [List.getD_eq_getElem?_getD, hc]; rfl
  show tornTo B kp size i ++ [⟨false, (kp.getD i syncM).n, tear (size i) (rdTo B (tornTo B kp size i) (kp.getD i syncM).n (tornTo B kp size i).length) (kp.getD i syncM).bytes⟩] = _
  rw [e, hl]

theorem XRel.push {w wr W w2 : World} {Y Y' Y2 : Nat → Prop} {px n : Nat} {vB vLx kv : Value} {rows rx : List Value} {B : Int → List UInt8} {kp : List CallM} {size : Nat → Nat} {i : Nat} {c : CallM} {l : List UInt8} {y : Value} {gg cap : Nat}
    (hR : RefIs wr Y' px n vB vLx B (tornTo B kp size i)) (hrx : wr.ownsRow 0 79 2 vLx (tornTo B kp size i).length rx) (hlx : RefLike wr Y' (tornTo B kp size i) rx) (hY : ∀ j, Y j → Y' j) (hY' : ∀ j, Y' j → ¬ refFoot px vB vLx j ∧ j < wr.heap.size) (hYo : ∀ j, Y' j → Y j ∨ w.heap.size ≤ j) (hpx : ∀ k, vLx.ownBlock = some k → px < k) (hb : Below w.heap.size w wr)
    (hk : wr.ownsRow w.heap.size 79 2 kv kp.length rows) (hlk : RefLike wr Y kp rows) (hkx : ∀ k, kv.ownBlock = some k → k < px) (hwp : w.heap.size ≤ px) (hYw : ∀ j, Y j → j < w.heap.size)
    (hbW : Below wr.heap.size wr W) (hgrow : W.grownBy w2 vLx.ownBlock) (hown : w2.ownsRow 0 79 2 (.slice (some ⟨gg, 0, none⟩) ((tornTo B kp size i).length + 1) cap) ((tornTo B kp size i).length + 1) (rx ++ [.int .i64 c.n, y])) (hat : vLx.ownBlock = some gg ∨ gg = W.heap.size) (_hglt : gg < w2.heap.size)
    (hY2 : ∀ j, Y' j → Y2 j) (hY2n : ∀ j, Y2 j → Y' j ∨ (wr.heap.size ≤ j ∧ j < W.heap.size)) (hy : BS W Y2 y l) (hc : kp[i]? = some c) (hl : tear (size i) (rdTo B (tornTo B kp size i) c.n (tornTo B kp size i).length) c.bytes = l) :
    XRel w Y px n vB kv rows B kp size (i + 1) (w2.setCell ⟨px, 2, none⟩ (.slice (some ⟨gg, 0, none⟩) ((tornTo B kp size i).length + 1) cap)) := by
  obtain ⟨hbox, ⟨bs, hB, hBs⟩, _⟩ := hR
  have lpx : px < wr.heap.size := lt_of_some hbox
  have vlt : ∀ k, vLx.ownBlock = some k → k < wr.heap.size := fun k hk => (hrx.lt k hk).2
  have blt : ∀ k, vB.ownBlock = some k → k < wr.heap.size := fun k hk => (hB.lt k hk).2
  have hsW := hbW.size
  have hs0 := hb.size
  have hy2 : BS w2 Y2 y l := hy.turned (turned_grown hgrow (Below.refl _ _)) (fun j hj e => by
    rcases hY2n j hj with h | h
    · exact (hY' j h).1 (.inr (.inr e))
    · have := vlt j e; omega)
  obtain ⟨vL', hR', hown', ht', _⟩ := ref_of (c := ⟨false, c.n, l⟩) (y := y) hbox hB hBs hrx hlx (fun j hj => (hY' j hj).1) hbW hgrow hown (hat.imp id (fun e => by omega)) hY2 (fun j hj e => by
    rcases hY2n j hj with h | h
    · exact (hY' j h).1 (.inl e)
    · omega) (fun _ => hy2)
  rw [tornTo_snoc B kp size hc hl |>.symm] at hR'
  have np := own_ne hrx hbox (by decide)
  have p2 : w2.heap[px]? = some (.cells #[.int .i64 (n : Int), vB, vLx] 52 (0, 0)) := (turned_grown hgrow hbW).obj hbox np
  have hbox' := hR'.1
  have hbv := heap_setCell_same w2 px 2 _ _ (.slice (some ⟨gg, 0, none⟩) ((tornTo B kp size i).length + 1) cap) p2
  have evL : vL' = .slice (some ⟨gg, 0, none⟩) ((tornTo B kp size i).length + 1) cap := by
    have := hbv.symm.trans hbox'
    simp at this
    exact this.symm
  have hbel : Below w.heap.size w (w2.setCell ⟨px, 2, none⟩ (.slice (some ⟨gg, 0, none⟩) ((tornTo B kp size i).length + 1) cap)) :=
    ((hb.trans (hbW.mono hs0)).grown hgrow (by omega) (fun k hk => by have := hpx k hk; omega)).setCell hwp _
  have tk : Turned (fun j => j = px ∨ vLx.ownBlock = some j) wr (w2.setCell ⟨px, 2, none⟩ (.slice (some ⟨gg, 0, none⟩) ((tornTo B kp size i).length + 1) cap)) :=
    ((turned_grown hgrow hbW).more (fun j h => .inr h)).trans (turned_setCell w2 px 2 _) (fun _ _ h => .inl h)
  have ty : Turned (fun j => w.heap.size ≤ j) wr (w2.setCell ⟨px, 2, none⟩ (.slice (some ⟨gg, 0, none⟩) ((tornTo B kp size i).length + 1) cap)) :=
    ⟨tk.os, tk.tape, tk.output, tk.size, fun k hk hn => tk.block k hk (fun e => by
      rcases e with e | e
      · omega
      · have := hpx k e; omega)⟩
  have hsz := tk.size
  have hszW := hgrow.size
  refine ⟨vL', Y2, hR', fun j hj => hY2 j (hY j hj), fun j hj => ⟨fun hf => ?_, ?_⟩, fun j hj => (hY2n j hj).elim (hYo j) (fun h => .inr (by omega)), ?_, hbel, ?_, ?_⟩
  · rw [evL] at hf
    rcases hf with hf | hf | hf
    · rcases hY2n j hj with h | h
      · exact (hY' j h).1 (.inl hf)
      · omega
    · rcases hY2n j hj with h | h
      · exact (hY' j h).1 (.inr (.inl hf))
      · have := blt j hf; omega
    · have hgj : gg = j := by simpa [Value.ownBlock] using hf
      subst hgj
      rcases hY2n gg hj with h | h
      · rcases hat with hat | hat
        · exact (hY' gg h).1 (.inr (.inr hat))
        · have := (hY' gg h).2; omega
      · rcases hat with hat | hat
        · have := vlt gg hat; omega
        · omega
  · show j < (w2.setCell _ _).heap.size
    rcases hY2n j hj with h | h
    · have := (hY' j h).2; omega
    · have e : (w2.setCell ⟨px, 2, none⟩ (.slice (some ⟨gg, 0, none⟩) ((tornTo B kp size i).length + 1) cap)).heap.size = w2.heap.size := by simp [World.setCell]
      omega
  · intro k hk'
    rw [evL] at hk'
    have hgj : gg = k := by simpa [Value.ownBlock] using hk'
    subst hgj
    rcases hat with hat | hat
    · exact hpx gg hat
    · omega
  · exact ownsRow_turned hk tk (fun k hk' e => by
      have h1 := hkx k hk'
      rcases e with e | e
      · omega
      · have := hpx k e; omega)
  · intro j d hd
    obtain ⟨v, h1, h2, h3⟩ := hlk j d hd
    exact ⟨v, h1, h2, fun hs => (h3 hs).turned ty (fun k hk' => by have := hYw k hk'; omega)⟩

theorem XRel.start {w w3 : World} {Y : Nat → Prop} {p n : Nat} {vB vL kv : Value} {rows : List Value} {B : Int → List UInt8} {cs kp : List CallM} {size : Nat → Nat} (h : RefIs w Y p n vB vL B cs) (hb : Below w.heap.size w w3) (hk : w3.ownsRow w.heap.size 79 2 kv kp.length rows) (hlk : RefLike w3 Y kp rows) (hsep : ∀ j, Y j → ¬ refFoot p vB vL j) (hYw : ∀ j, Y j → j < w.heap.size) :
    XRel w Y w3.heap.size n vB kv rows B kp size 0 ((w3.alloc (.cells #[.int .i64 (n : Int), vB, .slice none 0 0] 52)).drew) := by
  have hs := hb.size
  have hb2 : Below w.heap.size w ((w3.alloc (.cells #[.int .i64 (n : Int), vB, .slice none 0 0] 52)).drew) := (hb.alloc hs _).drew
  have t2 : Turned (fun j => w.heap.size ≤ j) w ((w3.alloc (.cells #[.int .i64 (n : Int), vB, .slice none 0 0] 52)).drew) := Turned.of_below hb2
  have t3 : Turned (fun _ => False) w3 ((w3.alloc (.cells #[.int .i64 (n : Int), vB, .slice none 0 0] 52)).drew) := Turned.of_below (((Below.refl _ w3).alloc (Nat.le_refl _) _).drew)
  obtain ⟨_, ⟨bs, hB, hBs⟩, _⟩ := h
  refine ⟨.slice none 0 0, Y, ⟨heap_alloc_new w3 _, ⟨bs, ownsRow_turned hB t2 (fun k hk' => by have := (hB.lt k hk').2; omega), fun i hi => ?_⟩, ⟨[], World.ownsRow_nil _ _ _ _, fun i c hc => by cases hc⟩⟩, fun _ h => h, fun j hj => ⟨fun hf => ?_, ?_⟩, fun _ h => .inl h, fun k hk' => (by cases hk'), hb2, ownsRow_turned hk t3 (fun _ _ h => h), ?_⟩
  · obtain ⟨v, h1, h2⟩ := hBs i hi
    exact ⟨v, h1, h2.turned t2 (fun j hj => by have := hYw j hj; omega)⟩
  · have := hYw j hj
    rcases hf with hf | hf | hf
    · omega
    · exact hsep j hj (.inr (.inl hf))
    · cases hf
  · have := hYw j hj
    show j < (w3.alloc _).heap.size
    simp
    omega
  · intro j d hd
    obtain ⟨v, h1, h2, h3⟩ := hlk j d hd
    exact ⟨v, h1, h2, fun hs => (h3 hs).turned t3 (fun _ _ h => h)⟩

theorem Own.max {w : World} {base g n c : Nat} {l : List UInt8} (h : Own w base g n c l) : c ≤ maxLen := by
  rcases h.1.2 with ⟨h', _⟩ | ⟨g', cap', cur, h', _, _, _, hm, _⟩
  · simp at h'
  · simp only [Value.slice.injEq, Option.some.injEq, Addr.mk.injEq, and_true, true_and] at h'
    rw [h'.2]; exact hm

/-- What a block has is 32 bytes. -/
theorem ref_len {w : World} {Y : Nat → Prop} {p n : Nat} {vB vL : Value} {B : Int → List UInt8} {cs : List CallM} (h : RefIs w Y p n vB vL B cs) {x : Int} (h0 : 0 ≤ x) (h1 : x < n) : ∀ k, k ≤ cs.length → (rdTo B cs x k).length = 32
  | 0, _ => by
    obtain ⟨_, ⟨bs, _, hBs⟩, _⟩ := h
    obtain ⟨v, _, A, cap, _, _, hl, _⟩ := hBs x.toNat (by omega)
    rw [Int.toNat_of_nonneg h0] at hl
    exact hl
  | k + 1, hk => by
    have ih := ref_len h h0 h1 k (by omega)
    show (if (cs.getD k syncM).sync = false ∧ (cs.getD k syncM).n = x then (cs.getD k syncM).bytes else rdTo B cs x k).length = 32
    split
    · rename_i hc
      obtain ⟨_, _, ⟨rows, _, hLs⟩⟩ := h
      have hg : cs[k]? = some (cs.getD k syncM) := by rw [List.getD_eq_getElem?_getD, List.getElem?_eq_getElem (by omega)]; rfl
      obtain ⟨v, _, _, h3⟩ := hLs k _ hg
      obtain ⟨A, cap, _, _, hl, _⟩ := h3 hc.1
      exact hl
    · exact ih

/-- How far the disk y is, behind i of the blocks. -/
def YRel (w : World) (Yx : Nat → Prop) (px py n : Nat) (vBx vLx : Value) (B : Int → List UInt8) (T : List CallM) (i : Nat) (wr : World) : Prop :=
  ∃ vBy bs, wr.heap[py]? = some (.cells #[.int .i64 (n : Int), vBy, .slice none 0 0] 52 (0, 0)) ∧ wr.ownsRow w.heap.size 39 1 vBy i bs ∧ (∀ a, a < i → ∃ v, bs[a]? = some v ∧ BS wr Yx v (rdTo B T (a : Int) T.length)) ∧
    RefIs wr Yx px n vBx vLx B T ∧ Below w.heap.size w wr ∧ (∀ k, vBy.ownBlock = some k → py < k)

theorem YRel.start {w wx : World} {Yx : Nat → Prop} {px n : Nat} {vBx vLx : Value} {B : Int → List UInt8} {T : List CallM} (hR : RefIs wx Yx px n vBx vLx B T) (hb : Below w.heap.size w wx) (hYx : ∀ j, Yx j → j < wx.heap.size) (hfx : ∀ j, refFoot px vBx vLx j → j < wx.heap.size) :
    YRel w Yx px wx.heap.size n vBx vLx B T 0 (wx.alloc (.cells #[.int .i64 (n : Int), .slice none 0 0, .slice none 0 0] 52)) := by
  have hs := hb.size
  have t3 : Turned (fun _ => False) wx (wx.alloc (.cells #[.int .i64 (n : Int), .slice none 0 0, .slice none 0 0] 52)) := Turned.of_below ((Below.refl _ wx).alloc (Nat.le_refl _) _)
  have _ := hYx
  have _ := hfx
  exact ⟨.slice none 0 0, [], heap_alloc_new wx _, World.ownsRow_nil _ _ _ _, fun a ha => by omega, hR.turned t3 (fun _ _ h => h) (fun _ _ h => h), hb.alloc hs _, fun k hk => by cases hk⟩

theorem YRel.push {w wr w7 : World} {Yx : Nat → Prop} {px py n : Nat} {vBx vLx vBy v : Value} {bs : List Value} {B : Int → List UInt8} {T : List CallM} {i gg cap : Nat}
    (hbox : wr.heap[py]? = some (.cells #[.int .i64 (n : Int), vBy, .slice none 0 0] 52 (0, 0))) (hB : wr.ownsRow w.heap.size 39 1 vBy i bs) (hBs : ∀ a, a < i → ∃ v, bs[a]? = some v ∧ BS wr Yx v (rdTo B T (a : Int) T.length))
    (hR : RefIs wr Yx px n vBx vLx B T) (hb : Below w.heap.size w wr) (hpy : ∀ k, vBy.ownBlock = some k → py < k) (hwp : w.heap.size ≤ py) (hYx : ∀ j, Yx j → j < py) (hfx : ∀ j, refFoot px vBx vLx j → j < py)
    (hgrow : (wr.alloc (.cells #[v] 39)).grownBy w7 vBy.ownBlock) (hown : w7.ownsRow w.heap.size 39 1 (.slice (some ⟨gg, 0, none⟩) (i + 1) cap) (i + 1) (bs ++ [v])) (hat : vBy.ownBlock = some gg ∨ gg = wr.heap.size + 1) (hv : BS wr Yx v (rdTo B T (i : Int) T.length)) :
    YRel w Yx px py n vBx vLx B T (i + 1) (w7.setCell ⟨py, 1, none⟩ (.slice (some ⟨gg, 0, none⟩) (i + 1) cap)) := by
  have lpy : py < wr.heap.size := lt_of_some hbox
  have hs0 := hb.size
  have hbA : Below wr.heap.size wr (wr.alloc (.cells #[v] 39)) := (Below.refl _ wr).alloc (Nat.le_refl _) _
  have np : vBy.ownBlock ≠ some py := fun e => by have := hpy py e; omega
  have t1 : Turned (fun k => vBy.ownBlock = some k) wr w7 := turned_grown hgrow hbA
  have p2 := t1.obj hbox np
  have tk : Turned (fun j => j = py ∨ vBy.ownBlock = some j) wr (w7.setCell ⟨py, 1, none⟩ (.slice (some ⟨gg, 0, none⟩) (i + 1) cap)) :=
    (t1.more (fun j h => .inr h)).trans (turned_setCell w7 py 1 _) (fun _ _ h => .inl h)
  have ty : Turned (fun j => py ≤ j) wr (w7.setCell ⟨py, 1, none⟩ (.slice (some ⟨gg, 0, none⟩) (i + 1) cap)) := tk.more (fun j h => by
    rcases h with h | h
    · omega
    · have := hpy j h; omega)
  have gp : gg ≠ py := by
    rintro rfl
    rcases hat with h | h
    · exact np h
    · omega
  have hbs : ∀ v l, BS wr Yx v l → BS (w7.setCell ⟨py, 1, none⟩ (.slice (some ⟨gg, 0, none⟩) (i + 1) cap)) Yx v l := fun v l h => h.turned ty (fun j hj => by have := hYx j hj; omega)
  refine ⟨.slice (some ⟨gg, 0, none⟩) (i + 1) cap, bs ++ [v], heap_setCell_same w7 py 1 _ _ _ p2, ownsRow_setCell_other hown (by simp [Value.ownBlock]; exact gp) _, fun a ha => ?_, hR.turned ty (fun j hj => by have := hfx j hj; omega) (fun j hj => by have := hYx j hj; omega), ?_, fun k hk => ?_⟩
  · have hl : bs.length = i := by have := hB.1; omega
    rcases Nat.lt_or_ge a i with h | h
    · obtain ⟨u, h1, h2⟩ := hBs a h
      exact ⟨u, by rw [List.getElem?_append_left (by omega)]; exact h1, hbs _ _ h2⟩
    · have e : a = i := by omega
      subst e
      exact ⟨v, by rw [List.getElem?_append_right (by omega), hl, Nat.sub_self]; rfl, hbs _ _ hv⟩
  · exact ((hb.alloc hs0 _).grown hgrow (by simp; omega) (fun k hk => by have := hpy k hk; omega)).setCell hwp _
  · have hgj : gg = k := by simpa [Value.ownBlock] using hk
    subst hgj
    rcases hat with h | h
    · exact hpy gg h
    · omega

theorem bytes_from {w : World} {A : Option Addr} {l : List UInt8} {k cap : Nat} (h : BytesAt w A l) (hc : cap = k → l.length ≤ k) : BytesAt w (if cap = k then A else A.map (·.add k)) (l.drop k) := by
  intro i b hi
  rw [List.getElem?_drop] at hi
  have hlt := (List.getElem?_eq_some_iff.1 hi).1
  obtain ⟨g, o, rfl, hcell⟩ := h (k + i) b hi
  rw [if_neg (fun e => by have := hc e; omega)]
  exact ⟨g, o + k, by rw [Option.map_some, Addr.add_mid], by rw [Nat.add_assoc]; exact hcell⟩

/-- A torn block: the beginning of one, the rest of another. -/
theorem torn_run {wr : World} {A A3 : Option Addr} {cap cap3 k : Nat} {lb lo : List UInt8} (hb : BytesAt wr A lb) (hl : lb.length = 32) (ho : BytesAt wr A3 lo) (hlo : lo.length = 32) (hk : k ≤ 32) (hc3 : 32 ≤ cap3) :
    ∃ g1 c1 W1 gy cy Wy, (Builtin.append_ #[39, 39] 39 #[.slice (some ⟨wr.heap.size, 0, none⟩) 0 0, .slice A k cap]).run Try.prog (wr.drew.alloc (.cells #[] 5)) = .ok (.slice (some ⟨g1, 0, none⟩) k c1) W1 ∧
      (Builtin.append_ #[39, 39] 39 #[.slice (some ⟨g1, 0, none⟩) k c1, .slice (if cap3 = k then A3 else A3.map (·.add k)) (32 - k) (cap3 - k)]).run Try.prog W1 = .ok (.slice (some ⟨gy, 0, none⟩) 32 cy) Wy ∧ Own Wy wr.heap.size gy 32 cy (tear k lo lb) ∧ Below wr.heap.size wr Wy := by
  have hb0 : Below wr.heap.size wr (wr.drew.alloc (.cells #[] 5)) := (Below.refl _ wr).drew.alloc (Nat.le_refl _) _
  have e1 : (lb.take k).length = k := by rw [List.length_take]; omega
  have e2 : (lo.drop k).length = 32 - k := by rw [List.length_drop]; omega
  have hbt : BytesAt (wr.drew.alloc (.cells #[] 5)) A (lb.take k) := fun i b hi => by
    rw [List.getElem?_take] at hi
    split at hi
    · obtain ⟨g, o, e, hc⟩ := hb i b hi
      exact ⟨g, o, e, (hb0.cell (p := ⟨g, o + i, none⟩) (World.block_lt_of_cell? _ _ hc)).trans hc⟩
    · cases hi
  have h1 := run_append_bytes (w := wr.drew.alloc (.cells #[] 5)) (Own.start wr.drew) A (lb.take k) cap hbt (by omega) (by simp)
  rw [e1] at h1
  simp only [Nat.zero_add, List.nil_append] at h1
  obtain ⟨g1, c1, W1, hap1, hown1, hgr1, _⟩ := h1
  have hs1 : wr.drew.heap.size = wr.heap.size := rfl
  rw [hs1] at hown1 hgr1
  have hb1 : Below wr.heap.size wr W1 := hb0.grown hgr1 (by simp) (fun j hj => by injection hj with hj; omega)
  have hbo : BytesAt W1 (if cap3 = k then A3 else A3.map (·.add k)) (lo.drop k) := by
    have := bytes_from (k := k) (cap := cap3) ho (fun e => by omega)
    intro i b hi
    obtain ⟨g, o, e, hc⟩ := this i b hi
    exact ⟨g, o, e, (hb1.cell (p := ⟨g, o + i, none⟩) (World.block_lt_of_cell? _ _ hc)).trans hc⟩
  have h2 := run_append_bytes hown1 _ (lo.drop k) (cap3 - k) hbo (by omega) hb1.size
  rw [e2, Nat.add_sub_of_le hk] at h2
  obtain ⟨gy, cy, Wy, hap2, hown2, hgr2, _⟩ := h2
  exact ⟨g1, c1, W1, gy, cy, Wy, hap1, hap2, hown2, hb1.grown hgr2 hb1.size (fun j hj => by injection hj with hj; have := hown1.ge; omega)⟩

/-- A call more in x.L. -/
theorem push_run {wr W : World} {vLx : Value} {T : List CallM} {rx : List Value} (hrx : wr.ownsRow 0 79 2 vLx T.length rx) (hT : T.length ≤ 1099511627776) (hb : Below wr.heap.size wr W) (x : Int) (A : Option Addr) (cap : Nat) :
    ∃ gg cap1 w2, (Builtin.append_ #[50, 50] 50 #[vLx, .slice (some ⟨W.heap.size, 0, none⟩) 1 1]).run Try.prog (W.drew.alloc (.cells #[.int .i64 x, .slice A 32 cap] 79)) = .ok (.slice (some ⟨gg, 0, none⟩) (T.length + 1) cap1) w2 ∧
      w2.ownsRow 0 79 2 (.slice (some ⟨gg, 0, none⟩) (T.length + 1) cap1) (T.length + 1) (rx ++ [.int .i64 x, .slice A 32 cap]) ∧ (W.drew.alloc (.cells #[.int .i64 x, .slice A 32 cap] 79)).grownBy w2 vLx.ownBlock ∧ (vLx.ownBlock = some gg ∨ gg = (W.drew.alloc (.cells #[.int .i64 x, .slice A 32 cap] 79)).heap.size) ∧ gg < w2.heap.size := by
  obtain ⟨i0, hi0, hz0, hz1, hz2⟩ := info_parts info_ref_call
  have hO := ownsRow_turned hrx (Turned.of_below (S := fun _ => False) hb.drew) (fun _ _ h => h)
  have hnw := World.news_of_block (cs := #[.int .i64 x, .slice A 32 cap]) (t := 79) (fr := (0, 0)) (heap_alloc_new W.drew _)
  exact run_append_lies (P := Try.prog) (W.drew.alloc (.cells #[.int .i64 x, .slice A 32 cap] 79)) 50 50 0 79 i0 _ 2 32 Try.underlying50 hi0 hz0 hz1 hz2 (by rfl) (by omega) vLx T.length rx (hO.alloc _) ⟨W.heap.size, 0, none⟩ 1 1 [.int .i64 x, .slice A 32 cap] rfl hnw (by simp [Value.oneCell']) (by omega) (by unfold maxLen; omega) (by omega) (by simp) _ rfl
end Go.Proofs.Ytpfdlcogldbocaa

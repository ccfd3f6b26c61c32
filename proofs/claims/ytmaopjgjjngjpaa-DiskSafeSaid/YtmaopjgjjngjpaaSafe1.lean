/-
  What is left behind a loss of power, byte by byte: each byte is one that was there at the last Sync, or one that was written since. Condition: the calls behind the Sync are writes of 32 bytes.
-/
import Derived.Test.YtmaopjgjjngjpaaLast
namespace Go.Proofs.Ytmaopjgjjngjpaa
open Go.RowKit Go.Maps

/-! ### the good writes of a script -/
def goodTo (os : List OpM) : Nat → List CallM
  | 0 => []
  | k + 1 => goodTo os k ++ (if wGood 12 (os.getD k default).n (os.getD k default).b then [⟨false, (os.getD k default).n, (os.getD k default).b⟩] else [])
theorem goodTo_step {os : List OpM} {k : Nat} {o : OpM} (ho : os[k]? = some o) (cs : List CallM) : wCs 12 (cs ++ goodTo os k) o.n o.b = cs ++ goodTo os (k + 1) := by
  have e : os.getD k default = o := by rw [List.getD_eq_getElem?_getD, ho]; rfl
  show _ = cs ++ (goodTo os k ++ (if wGood 12 (os.getD k default).n (os.getD k default).b then _ else _))
  rw [e]
  unfold wCs
  by_cases g : wGood 12 o.n o.b
  · rw [if_pos g, if_pos g, List.append_assoc]
  · rw [if_neg g, if_neg g, List.append_nil]
theorem goodTo_len (os : List OpM) : ∀ k, (goodTo os k).length ≤ k
  | 0 => Nat.le_refl _
  | k + 1 => by
    have := goodTo_len os k
    unfold goodTo
    split <;> simp <;> omega
theorem goodTo_mem (os : List OpM) : ∀ k, k ≤ os.length → ∀ c ∈ goodTo os k, c.sync = false ∧ ∃ j o, j < k ∧ os[j]? = some o ∧ o.n = c.n ∧ o.b = c.bytes ∧ o.b.length = 32
  | 0, _, c, h => by cases h
  | k + 1, hk, c, h => by
    unfold goodTo at h
    rcases List.mem_append.1 h with h | h
    · obtain ⟨h1, j, o, hj, h2⟩ := goodTo_mem os k (by omega) c h
      exact ⟨h1, j, o, by omega, h2⟩
    · have ho : os[k]? = some os[k] := List.getElem?_eq_getElem (by omega)
      have e : os.getD k default = os[k] := by rw [List.getD_eq_getElem?_getD, ho]; rfl
      rw [e] at h
      split at h
      · rename_i g
        have hc : c = ⟨false, os[k].n, os[k].b⟩ := by simpa using h
        subst hc
        exact ⟨rfl, k, os[k], by omega, ho, rfl, rfl, g.2.2⟩
      · cases h

/-! ### byte by byte -/
/-- Each byte of block x is one of f0's, or one of a write's in ws. -/
def Kin (f0 : Int → Option (List UInt8)) (ws : List CallM) (f : Int → Option (List UInt8)) : Prop :=
  ∀ x k, k < 32 → ((f x).getD zero32)[k]? = ((f0 x).getD zero32)[k]? ∨ ∃ c ∈ ws, c.n = x ∧ c.bytes[k]? = ((f x).getD zero32)[k]?
theorem Kin.refl (f0 : Int → Option (List UInt8)) (ws : List CallM) : Kin f0 ws f0 := fun _ _ _ => .inl rfl
theorem Kin.laid {f0 f : Int → Option (List UInt8)} {ws : List CallM} (h : Kin f0 ws f) (hf : Blocks32 f) {c : CallM} (hc : c ∈ ws) (hs : c.sync = false) (hl : c.bytes.length = 32) {t : Nat} (ht : t ≤ 32) : Kin f0 ws (laid f c t) := by
  obtain ⟨s, n, l⟩ := c
  simp only at hs hl
  subst hs
  rw [laid_write]
  intro x k hk
  by_cases e : x = n
  · subst e
    rw [upd_same]
    have ho := getD32 hf x
    show (tear t ((f x).getD zero32) l)[k]? = _ ∨ _
    unfold tear
    by_cases hkt : k < t
    · right
      refine ⟨_, hc, rfl, ?_⟩
      show l[k]? = (l.take t ++ ((f x).getD zero32).drop t)[k]?
      rw [List.getElem?_append_left (by simp; omega), List.getElem?_take, if_pos hkt]
    · have e2 : (l.take t ++ ((f x).getD zero32).drop t)[k]? = ((f x).getD zero32)[k]? := by
        rw [List.getElem?_append_right (by simp; omega), List.getElem?_drop]
        congr 1
        simp
        omega
      rcases h x k hk with h1 | ⟨c, hc', h1, h2⟩
      · left; rw [e2]; exact h1
      · right
        refine ⟨c, hc', h1, ?_⟩
        show c.bytes[k]? = (l.take t ++ ((f x).getD zero32).drop t)[k]?
        rw [e2]; exact h2
  · rw [upd_other _ _ _ e]
    exact h x k hk
theorem Kin.layTo {f0 f : Int → Option (List UInt8)} {ws cs : List CallM} (h : Kin f0 ws f) (hf : Blocks32 f) (hc : ∀ c ∈ cs, c ∈ ws ∧ c.sync = false ∧ c.ok) {size : Nat → Nat} (hs : ∀ i, size i ≤ 32) : ∀ k, k ≤ cs.length → Kin f0 ws (layTo f cs size k)
  | 0, _ => h
  | k + 1, hk => by
    have hm : cs.getD k syncM ∈ cs := by rw [List.getD_eq_getElem?_getD, List.getElem?_eq_getElem (by omega)]; exact List.getElem_mem _
    obtain ⟨h1, h2, h3⟩ := hc _ hm
    exact (Kin.layTo h hf hc hs k (by omega)).laid (blocks32_layTo hf (fun c hc' => (hc c hc').2.2) hs k (by omega)) h1 h2 h3.1 (hs k)

/-- Behind a Sync, and j writes more, power goes. -/
theorem cutF_kin {S : Int → Option (List UInt8)} {cs ws : List CallM} (h : Lays (fun _ => none) S (cs ++ [syncM])) (hS : Blocks32 S) (hw : ∀ c ∈ ws, c.sync = false ∧ c.ok) (j : Nat) {k : Nat} (hk : SyncAt (cs ++ [syncM] ++ ws.take j) k) (ks : List Bool) (torn : Int) :
    Kin S ws (cutF (fun _ => none) (cs ++ [syncM] ++ ws.take j) k ks torn) := by
  have hkl : k = (cs ++ [syncM]).length := by
    obtain ⟨h1, h2, h3⟩ := hk
    rcases Nat.lt_trichotomy k (cs ++ [syncM]).length with hlt | heq | hgt
    · exfalso
      have := h2 cs.length syncM (by simp at hlt; omega) (by rw [List.getElem?_append_left (by simp)]; simp)
      cases this
    · exact heq
    · exfalso
      obtain ⟨c, hc, hs⟩ := h3 (by omega)
      rw [List.getElem?_append_right (by omega)] at hc
      have hm := List.mem_of_mem_take (List.mem_of_getElem? hc)
      rw [(hw c hm).1] at hs
      cases hs
  have e1 : (cs ++ [syncM] ++ ws.take j).take k = cs ++ [syncM] := by rw [hkl]; exact List.take_left
  have e2 : (cs ++ [syncM] ++ ws.take j).drop k = ws.take j := by rw [hkl]; exact List.drop_left
  unfold cutF
  rw [e1, e2, hkl]
  have e3 : layTo (fun _ => none) (cs ++ [syncM]) (fun _ => 32) (cs ++ [syncM]).length = S := by
    rw [h]
    funext x
    cases S x <;> rfl
  rw [e3]
  exact (Kin.refl S ws).layTo hS (fun c hc => by
    have hm := List.mem_of_mem_take (keptM_mem _ _ c hc)
    exact ⟨hm, hw c hm⟩) (sizes_le _ _) _ (Nat.le_refl _)

/-! ### the law's own test -/
/-- What the law has found behind i operations. -/
def fineTo (ms : List OpM) (n : Nat) (k : Nat) (x y : UInt8) : Nat → Bool
  | 0 => (x.toNat : Int) == (y.toNat : Int)
  | i + 1 => fineTo ms n k x y i || (decide ((ms.getD i default).n = (n : Int)) && decide ((ms.getD i default).b.length = 32) && decide ((ms.getD i default).b[k]? = some x))
theorem fineTo_mono {ms : List OpM} {n k : Nat} {x y : UInt8} : ∀ {i j : Nat}, i ≤ j → fineTo ms n k x y i = true → fineTo ms n k x y j = true
  | i, 0, h, hi => by
    have : i = 0 := by omega
    subst this; exact hi
  | i, j + 1, h, hi => by
    rcases Nat.lt_or_ge i (j + 1) with h1 | h1
    · have := fineTo_mono (ms := ms) (n := n) (k := k) (x := x) (y := y) (show i ≤ j by omega) hi
      unfold fineTo
      rw [this]; rfl
    · have : i = j + 1 := by omega
      subst this; exact hi
theorem fineTo_true {ms : List OpM} {n k K : Nat} {x y : UInt8} (hx : x = y ∨ ∃ j o, j < K ∧ ms[j]? = some o ∧ o.n = (n : Int) ∧ o.b.length = 32 ∧ o.b[k]? = some x) : fineTo ms n k x y K = true := by
  rcases hx with rfl | ⟨j, o, hj, ho, h1, h2, h3⟩
  · exact fineTo_mono (Nat.zero_le _) (by unfold fineTo; simp)
  · refine fineTo_mono (show j + 1 ≤ K by omega) ?_
    have e : ms.getD j default = o := by rw [List.getD_eq_getElem?_getD, ho]; rfl
    unfold fineTo
    rw [e, h3]
    simp [h1, h2]
theorem fineTo_step {ms : List OpM} {n k i : Nat} {x y : UInt8} {o : OpM} (ho : ms[i]? = some o) : fineTo ms n k x y (i + 1) = (fineTo ms n k x y i || (decide (o.n = (n : Int)) && decide (o.b.length = 32) && decide (o.b[k]? = some x))) := by
  have e : ms.getD i default = o := by rw [List.getD_eq_getElem?_getD, ho]; rfl
  show (_ || (decide ((ms.getD i default).n = _) && _ && _)) = _
  rw [e]

/-! ### a script's writes -/
/-- The disk behind some writes: its blocks lie in T, and nothing but T has turned. -/
def Writes (p bf bs : Nat) (T : Nat → Prop) (w0 : World) (S : Int → Option (List UInt8)) (cs : List CallM) (wr : World) : Prop :=
  ∃ v, DiskIs wr p bf bs v 12 0 (fun _ => none) S cs ∧ (∀ j, foot p bf bs v j → T j) ∧ Turned T w0 wr
theorem Writes.step {p bf bs : Nat} {T : Nat → Prop} {w0 wr w' : World} {S S' : Int → Option (List UInt8)} {cs cs' : List CallM} {v : Value} {r : Int} {e : Ending} (hf : ∀ j, foot p bf bs v j → T j) (ht : Turned T w0 wr) (hT : ∀ j, w0.heap.size ≤ j → T j)
    (h : Step wr.drew p bf bs v 12 0 (fun _ => none) S' cs' r e w') : Writes p bf bs T w0 S' cs' w' := by
  have _ := S
  have _ := cs
  obtain ⟨_, v', hd, hv, htt⟩ := h
  refine ⟨v', hd, ?_, ?_⟩
  · rintro j (hj | hj | hj | hj)
    · exact hf j (.inl hj)
    · exact hf j (.inr (.inl hj))
    · exact hf j (.inr (.inr (.inl hj)))
    · rcases hv with hv | ⟨g, hg, hlt⟩
      · exact hf j (.inr (.inr (.inr (by rw [← hv]; exact hj))))
      · rw [hg] at hj
        injection hj with hj
        exact hT j (by have h1 := ht.size; have h2 : wr.heap.size ≤ g := hlt; omega)
  · exact (show Turned T w0 wr.drew from ⟨ht.os, ht.tape, ht.output, ht.size, ht.block⟩).trans htt (fun i _ hi => hf i hi)
end Go.Proofs.Ytmaopjgjjngjpaa

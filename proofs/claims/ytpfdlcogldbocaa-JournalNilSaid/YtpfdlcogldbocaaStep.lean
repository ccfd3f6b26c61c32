/-
  Write of package disk for whatever block and bytes; what a script of writes makes of a disk; what Cut leaves of a disk that was synced, and of one at its beginning. Conditions: the disk lies in memory as DiskIs says, the bytes outside it.
-/
import Derived.Test.YtpfdlcogldbocaaConv
namespace Go.Proofs.Ytpfdlcogldbocaa
open Go.RowKit Go.Maps

/-- A call that answers r and leaves the disk so. -/
def Step (w : World) (p bf bs : Nat) (v : Value) (n kf : Nat) (F S : Int → Option (List UInt8)) (cs : List CallM) (r : Int) (e : Ending) (w' : World) : Prop :=
  e = .returned (.int .i64 r) ∧ ∃ v', DiskIs w' p bf bs v' n kf F S cs ∧ (v'.ownBlock = v.ownBlock ∨ ∃ g, v'.ownBlock = some g ∧ w.heap.size ≤ g) ∧ Turned (foot p bf bs v) w w'

def wGood (n : Nat) (x : Int) (l : List UInt8) : Prop := 0 ≤ x ∧ x < n ∧ l.length = 32
instance (n : Nat) (x : Int) (l : List UInt8) : Decidable (wGood n x l) := by unfold wGood; infer_instance
def wCode (n : Nat) (x : Int) (l : List UInt8) : Int := if 0 ≤ x ∧ x < n then (if l.length = 32 then 0 else 1) else 21
def wS (n : Nat) (S : Int → Option (List UInt8)) (x : Int) (l : List UInt8) : Int → Option (List UInt8) := if wGood n x l then upd S x l else S
def wCs (n : Nat) (cs : List CallM) (x : Int) (l : List UInt8) : List CallM := if wGood n x l then cs ++ [⟨false, x, l⟩] else cs

theorem write_any (p bf bs : Nat) (v : Value) (n kf : Nat) (F S : Int → Option (List UInt8)) (cs : List CallM) (x : Int) (l : List UInt8) (A : Option Addr) (cap : Nat) (w : World) (h : DiskIs w p bf bs v n kf F S cs) (hcs : cs.length < 1099511627776)
    (hn : n ≤ 65536) (hb : BytesAt w A l) (hcap : l.length ≤ cap) (hA : 0 < l.length → ∀ g o, A = some ⟨g, o, none⟩ → ¬ foot p bf bs v g) :
    Calls Try.prog 16 #[.pointer (some ⟨p, 0, none⟩), .int .i64 x, .slice A l.length cap] w (Step w p bf bs v n kf F (wS n S x l) (wCs n cs x l) (wCode n x l)) := by
  by_cases hx : 0 ≤ x ∧ x < n
  · by_cases hl : l.length = 32
    · have hg : wGood n x l := ⟨hx.1, hx.2, hl⟩
      unfold wS wCs wCode
      rw [if_pos hg, if_pos hg, if_pos hx, if_pos hl]
      obtain ⟨g, o, rfl, hc0⟩ := hb 0 (l[0]'(by omega)) (List.getElem?_eq_getElem (by omega))
      have hr : w.rangeAt g o (bytesV l) := fun j u hu => by
        have hj : j < l.length := by have := (List.getElem?_eq_some_iff.1 hu).1; rwa [length_bytesV] at this
        obtain ⟨g', o', e, hc⟩ := hb j l[j] (List.getElem?_eq_getElem hj)
        injection e with e
        obtain ⟨rfl, rfl⟩ := (⟨(Addr.mk.inj e).1, (Addr.mk.inj e).2.1⟩ : g = g' ∧ o = o')
        rw [hc]
        simp only [bytesV, List.getElem?_map, List.getElem?_eq_getElem hj, Option.map_some] at hu
        exact hu
      have hA' := hA (by omega) g o rfl
      rw [hl]
      rw [hl] at hcap
      exact (write_in p bf bs v n kf F S cs x l g o cap w h hcs hx.1 hx.2 hn hl hr hA' hcap).mono fun e w' hh => hh
    · have hg : ¬ wGood n x l := fun hh => hl hh.2.2
      unfold wS wCs wCode
      rw [if_neg hg, if_neg hg, if_pos hx, if_neg hl]
      exact (write_len p n x A l.length cap w h.cell0 hx.1 hx.2 hl).mono fun e w' hh => ⟨hh.1, v, hh.2 ▸ h, .inl rfl, hh.2 ▸ Turned.refl _ _⟩
  · have hg : ¬ wGood n x l := fun hh => hx ⟨hh.1, hh.2.1⟩
    unfold wS wCs wCode
    rw [if_neg hg, if_neg hg, if_neg hx]
    exact (write_out p n x _ w h.cell0 (by omega)).mono fun e w' hh => ⟨hh.1, v, hh.2 ▸ h, .inl rfl, hh.2 ▸ Turned.refl _ _⟩

theorem sync_step (p bf bs : Nat) (v : Value) (n kf : Nat) (F S : Int → Option (List UInt8)) (cs : List CallM) (w : World) (h : DiskIs w p bf bs v n kf F S cs) (hcs : cs.length < 1099511627776) :
    Calls Try.prog 45 #[.pointer (some ⟨p, 0, none⟩)] w (Step w p bf bs v n kf F S (cs ++ [syncM]) 0) := sync_in p bf bs v n kf F S cs w h hcs

/-- The blocks of a disk stay above a mark, and clear of a block. -/
theorem Step.above {w : World} {p bf bs : Nat} {v v' : Value} {B : Nat} (h : ∀ k, foot p bf bs v k → B ≤ k) (hB : B ≤ w.heap.size) (hv : v'.ownBlock = v.ownBlock ∨ ∃ g, v'.ownBlock = some g ∧ w.heap.size ≤ g) : ∀ k, foot p bf bs v' k → B ≤ k := by
  rintro k (hk | hk | hk | hk)
  · exact h k (.inl hk)
  · exact h k (.inr (.inl hk))
  · exact h k (.inr (.inr (.inl hk)))
  · rcases hv with hv | ⟨g, hg, hlt⟩
    · exact h k (.inr (.inr (.inr (by rw [← hv]; exact hk))))
    · rw [hg] at hk
      injection hk with hk
      omega
theorem Step.apart {w : World} {p bf bs : Nat} {v v' : Value} {b : Nat} (h : ¬ foot p bf bs v b) (hb : b < w.heap.size) (hv : v'.ownBlock = v.ownBlock ∨ ∃ g, v'.ownBlock = some g ∧ w.heap.size ≤ g) : ¬ foot p bf bs v' b := by
  rintro (hk | hk | hk | hk)
  · exact h (.inl hk)
  · exact h (.inr (.inl hk))
  · exact h (.inr (.inr (.inl hk)))
  · rcases hv with hv | ⟨g, hg, hlt⟩
    · exact h (.inr (.inr (.inr (by rw [← hv]; exact hk))))
    · rw [hg] at hk
      injection hk with hk
      omega

/-! ### all calls laid one behind the other -/
theorem layTo_prefix (f : Int → Option (List UInt8)) (cs : List CallM) (c : CallM) (size : Nat → Nat) : ∀ k, k ≤ cs.length → layTo f (cs ++ [c]) size k = layTo f cs size k
  | 0, _ => rfl
  | k + 1, h => by
    unfold layTo
    rw [layTo_prefix f cs c size k (by omega)]
    congr 1
    rw [List.getD_eq_getElem?_getD, List.getD_eq_getElem?_getD, List.getElem?_append_left (by omega)]
theorem layTo_snoc (f : Int → Option (List UInt8)) (cs : List CallM) (c : CallM) (size : Nat → Nat) : layTo f (cs ++ [c]) size (cs ++ [c]).length = laid (layTo f cs size cs.length) c (size cs.length) := by
  rw [List.length_append]
  show laid (layTo f (cs ++ [c]) size cs.length) ((cs ++ [c]).getD cs.length syncM) (size cs.length) = _
  rw [layTo_prefix f cs c size cs.length (Nat.le_refl _), List.getD_eq_getElem?_getD]
  simp

/-- What the calls make of a disk: what was written since shows as what a lay of all of them. -/
def Lays (F S : Int → Option (List UInt8)) (cs : List CallM) : Prop := layTo F cs (fun _ => 32) cs.length = fun x => (S x).or (F x)
theorem Lays.start (F : Int → Option (List UInt8)) : Lays F (fun _ => none) [] := by
  unfold Lays
  funext x
  simp [layTo]
theorem Lays.write {F S : Int → Option (List UInt8)} {cs : List CallM} (h : Lays F S cs) (hF : Blocks32 F) (hS : Blocks32 S) {x : Int} {l : List UInt8} (hl : l.length = 32) : Lays F (upd S x l) (cs ++ [⟨false, x, l⟩]) := by
  unfold Lays at *
  rw [layTo_snoc, h, laid_write]
  have ho : (((S x).or (F x)).getD zero32).length = 32 := by
    cases hs : S x with
    | some m => exact hS x m hs
    | none =>
      cases hf : F x with
      | some m => exact hF x m hf
      | none => rfl
  rw [tear_all ho hl]
  funext y
  by_cases e : y = x
  · subst e; rw [upd_same, upd_same]; rfl
  · rw [upd_other _ _ _ e, upd_other _ _ _ e]
theorem Lays.sync {F S : Int → Option (List UInt8)} {cs : List CallM} (h : Lays F S cs) : Lays F S (cs ++ [syncM]) := by
  unfold Lays at *
  rw [layTo_snoc, h, laid_sync rfl]
theorem Lays.step {F S : Int → Option (List UInt8)} {cs : List CallM} (h : Lays F S cs) (hF : Blocks32 F) (hS : Blocks32 S) {n : Nat} {x : Int} {l : List UInt8} : Lays F (wS n S x l) (wCs n cs x l) := by
  unfold wS wCs
  by_cases g : wGood n x l
  · rw [if_pos g, if_pos g]; exact h.write hF hS g.2.2
  · rw [if_neg g, if_neg g]; exact h
theorem blocks32_wS {S : Int → Option (List UInt8)} (hS : Blocks32 S) {n : Nat} {x : Int} {l : List UInt8} : Blocks32 (wS n S x l) := by
  unfold wS
  by_cases g : wGood n x l
  · rw [if_pos g]; exact blocks32_upd hS g.2.2
  · rw [if_neg g]; exact hS
theorem length_wCs {n : Nat} {cs : List CallM} {x : Int} {l : List UInt8} : (wCs n cs x l).length ≤ cs.length + 1 := by
  unfold wCs
  split <;> simp

/-! ### Cut at the end behind a Sync, and at the beginning -/
theorem keptM_nil (ks : List Bool) : keptM [] ks = [] := by
  unfold keptM
  simp [keptTo]
theorem cutF_synced {F S : Int → Option (List UInt8)} {cs : List CallM} (h : Lays F S (cs ++ [syncM])) {k : Nat} (hk : SyncAt (cs ++ [syncM]) k) (ks : List Bool) (torn : Int) : cutF F (cs ++ [syncM]) k ks torn = fun x => (S x).or (F x) := by
  have hkl : k = (cs ++ [syncM]).length := by
    obtain ⟨h1, h2, _⟩ := hk
    rcases Nat.lt_or_ge k (cs ++ [syncM]).length with hlt | hge
    · exfalso
      have := h2 cs.length syncM (by simp at hlt; omega) (by simp)
      cases this
    · omega
  unfold cutF
  rw [hkl, List.drop_length, keptM_nil, List.take_length]
  exact h
theorem cutF_zero (F : Int → Option (List UInt8)) {k : Nat} (hk : SyncAt [] k) (ks : List Bool) (torn : Int) : cutF F [] k ks torn = F := by
  have : k = 0 := by have := hk.1; simpa using this
  subst this
  unfold cutF
  simp only [List.drop_nil, keptM_nil, List.length_nil]
  rfl
end Go.Proofs.Ytpfdlcogldbocaa

/-
  What Cut of package disk returns: a disk that has what survives, and nothing since. Conditions: the disk lies in memory as DiskIs says, keep as BoolsAt says; the numbers are int's.
-/
import Derived.Test.YtpfdlcogldbocaaKept
import Derived.Deep.QuietTactic
import Derived.BigQuiet
namespace Go.Proofs.Ytpfdlcogldbocaa
open Go.RowKit Go.Maps

theorem LaidIs.mono {w : World} {b n m : Nat} {f : Int → Option (List UInt8)} {e : Ending} {w' : World} (h : LaidIs w b n f e w') (hn : n ≤ m) : LaidIs w b m f e w' := ⟨h.1, h.2.1.mono hn, h.2.2⟩
theorem lay_any (b n : Nat) (f : Int → Option (List UInt8)) (c : CallM) (k : Nat) (w : World) (h : MapIs Try.prog 3 w b n f) (hf : Blocks32 f) (hc : c.ok) (hk : k ≤ 32) (hn : n < 1099511627776) :
    Calls Try.prog 50 #[.map (some b), callV c, .int .i64 (k : Int)] w (LaidIs w b (n + 1) (laid f c k)) := by
  obtain ⟨s, x, l⟩ := c
  cases s with
  | true => exact (lay_sync b n f x l _ w h).mono fun _ _ hh => hh.mono (Nat.le_succ _)
  | false => exact lay_write b n f x l k w h hf hc.1 hk hc.2 hn

/-- Calls laid one behind the other, the i-th with its first (size i) bytes. -/
def layTo (f : Int → Option (List UInt8)) (cs : List CallM) (size : Nat → Nat) : Nat → Int → Option (List UInt8)
  | 0 => f
  | k + 1 => laid (layTo f cs size k) (cs.getD k syncM) (size k)
theorem blocks32_layTo {f : Int → Option (List UInt8)} (hf : Blocks32 f) {cs : List CallM} (hc : ∀ c ∈ cs, c.ok) {size : Nat → Nat} (hs : ∀ i, size i ≤ 32) : ∀ k, k ≤ cs.length → Blocks32 (layTo f cs size k)
  | 0, _ => hf
  | k + 1, hk => blocks32_laid (blocks32_layTo hf hc hs k (by omega)) (hc _ (by rw [List.getD_eq_getElem?_getD, List.getElem?_eq_getElem (by omega)]; exact List.getElem_mem _)) (hs k)

/-- The sizes of what survives: the last one is torn. -/
def sizes (n : Nat) (torn : Int) (i : Nat) : Nat := if i + 1 = n then red torn 33 else 32
theorem sizes_le (n : Nat) (torn : Int) (i : Nat) : sizes n torn i ≤ 32 := by
  unfold sizes
  split
  · have := red_lt torn 33 (by omega); omega
  · omega

/-- What a loss of power leaves, where k calls are up to the last Sync. -/
def cutF (F : Int → Option (List UInt8)) (dn : List CallM) (k : Nat) (ks : List Bool) (torn : Int) : Int → Option (List UInt8) :=
  layTo (layTo F (dn.take k) (fun _ => 32) k) (keptM (dn.drop k) ks) (sizes (keptM (dn.drop k) ks).length torn) (keptM (dn.drop k) ks).length

def CutIs (w : World) (n kf : Nat) (F : Int → Option (List UInt8)) (cs : List CallM) (at_ : Int) (ks : List Bool) (torn : Int) (e : Ending) (w' : World) : Prop :=
  ∃ k p bf bs v, SyncAt (cs.take (red at_ (cs.length + 1))) k ∧ e = .returned (.pointer (some ⟨p, 0, none⟩)) ∧ DiskIs w' p bf bs v n (kf + cs.length) (cutF F (cs.take (red at_ (cs.length + 1))) k ks torn) (fun _ => none) [] ∧
    (∀ i, foot p bf bs v i → w.heap.size ≤ i) ∧ Below w.heap.size w w'

/-! ### slices of calls -/
theorem CallsAt.keep {w w' : World} {A : Option Addr} {cs : List CallM} {B : Nat} (h : CallsAt w A cs) (hb : Below B w w') (hA : ∀ g o, A = some ⟨g, o, none⟩ → g < B) : CallsAt w' A cs := by
  intro i c hc
  obtain ⟨g, o, rfl, hr⟩ := h i c hc
  exact ⟨g, o, rfl, fun j u hu => (hb.cell (hA g o rfl)).trans (hr j u hu)⟩
theorem CallsAt.take {w : World} {A : Option Addr} {cs : List CallM} (h : CallsAt w A cs) (k : Nat) : CallsAt w A (cs.take k) := by
  intro i c hc
  rw [List.getElem?_take] at hc
  split at hc
  · exact h i c hc
  · cases hc
theorem CallsAt.of_own {w : World} {n cap : Nat} {A : Option Addr} {cs : List CallM} (hok : ∀ c ∈ cs, c.ok) (h : w.ownsRow 0 86 34 (.slice A n cap) n (callsV cs)) : CallsAt w A cs := by
  intro i c hc
  rcases h.2 with ⟨e, h0⟩ | ⟨g, cap', cur, e, _⟩
  · have h1 := h.1
    rw [h0, length_callsV hok] at h1
    have h2 : i < cs.length := (List.getElem?_eq_some_iff.1 hc).1
    omega
  · injection e with e _ _
    subst e
    refine ⟨g, 0, rfl, fun j u hu => ?_⟩
    have := h.cells (g := g) rfl (i * 34 + j) u (callsV_at hok i c hc j u hu)
    rw [Addr.add_mid] at this
    rw [← this]
    congr 2
    omega

theorem slice_to {w : World} {A : Option Addr} {n cap k : Nat} (hk : k ≤ cap) (_hc : cap ≤ maxLen) : (Instr.sliceAt 82 (.slice A n cap) none (some (.int .i64 (k : Int))) none).run Try.prog w = .ok (.slice A k cap) w := by
  unfold maxLen at _hc
  have h1 : (k : Int) ≤ (cap : Int) := by omega
  have h0 : (0 : Int) ≤ (k : Int) := by omega
  go_simp
end Go.Proofs.Ytpfdlcogldbocaa

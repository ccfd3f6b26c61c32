/-
  The document's answer's Right, Find and Same. Conditions: no text is longer than 2^40 bytes, no list than 2^40 files.
-/
import Derived.Test.YtcjbhjbjkfgphaaTmem
import Derived.Deep.QuietTactic
import Derived.BigQuiet
namespace Go.Proofs.Ytcjbhjbjkfgphaa
open Go.RowKit Go.Deep

/-- Whether a text is a path. -/
def RightP (s : ByteArray) : Prop := 1 ≤ s.size ∧ s.size ≤ 32 ∧ ∀ i (h : i < s.size), 33 ≤ s[i].toNat ∧ s[i].toNat ≤ 126
instance (s : ByteArray) : Decidable (RightP s) := by unfold RightP; infer_instance

set_option maxRecDepth 100000 in
set_option maxHeartbeats 1000000 in
theorem ref_right (s : ByteArray) (w : World) (hs : s.size ≤ 1099511627776) : Calls Try.prog 15 #[.string s] w fun e w' => e = .returned (.bool (decide (RightP s))) ∧ w = w' := by
  go_enter Try.func15, Try.ntmps15
  go_wp2_with fail
  go_loopw [3] (fun iv wr => ∃ i : Nat, iv = .int .i64 (i : Int) ∧ i ≤ s.size ∧ (∀ j (h : j < s.size), j < i → 33 ≤ s[j].toNat ∧ s[j].toNat ≤ 126) ∧ w = wr) (fun iv _ => s.size - (intOf iv).toNat)
  case atStart => exact ⟨0, rfl, Nat.zero_le _, fun j _ h => by omega, rfl⟩
  case round =>
    obtain ⟨i, rfl, hi, hall, rfl⟩ := hrel
    have HALL := Lib.hid hall
    by_cases hlt : i < s.size
    · have hiI : (i : Int) < (s.size : Int) := by omega
      have hi0 : (0 : Int) ≤ (i : Int) := by omega
      clear hall
      by_cases h33 : s[i].toNat < 33
      · have g1 : decide ((s[i].toNat : Int) < 33) = true := decide_eq_true (by omega)
        have g1n : decide (s[i].toNat < 33) = true := decide_eq_true (by omega)
        have HN := Lib.hid (show ¬ RightP s from fun h => by have := (h.2.2 i hlt).1; omega)
        clear h33
        go_wp2_with fail
        go_ret
        exact ⟨by rw [decide_eq_false HN.out]; rfl, rfl⟩
      · have g1 : decide ((s[i].toNat : Int) < 33) = false := decide_eq_false (by omega)
        have g1n : decide (s[i].toNat < 33) = false := decide_eq_false (by omega)
        by_cases h126 : 126 < s[i].toNat
        · have g2 : decide (126 < (s[i].toNat : Int)) = true := decide_eq_true (by omega)
          have g2n : decide (126 < s[i].toNat) = true := decide_eq_true (by omega)
          have HN := Lib.hid (show ¬ RightP s from fun h => by have := (h.2.2 i hlt).2; omega)
          clear h33 h126
          go_wp2_with fail
          go_ret
          exact ⟨by rw [decide_eq_false HN.out]; rfl, rfl⟩
        · have g2 : decide (126 < (s[i].toNat : Int)) = false := decide_eq_false (by omega)
          have g2n : decide (126 < s[i].toNat) = false := decide_eq_false (by omega)
          have HNX := Lib.hid (show ∀ j (h : j < s.size), j < i + 1 → 33 ≤ s[j].toNat ∧ s[j].toNat ≤ 126 from fun j h hj => by
            by_cases e : j = i
            · subst e; omega
            · exact HALL.out j h (by omega))
          clear h33 h126
          go_wp2_with fail
          go_roundw
          case rel => exact ⟨i + 1, by go_num, by omega, HNX.out, trivial⟩
          case measure => simp [intOf]; omega
    · have hie : i = s.size := by omega
      subst hie
      have hiI : ¬ (s.size : Int) < (s.size : Int) := by omega
      clear hall
      by_cases h1 : 1 ≤ s.size
      · have g1 : decide ((1 : Int) ≤ (s.size : Int)) = true := decide_eq_true (by omega)
        have g1n : decide (1 ≤ s.size) = true := decide_eq_true (by omega)
        by_cases h2 : s.size ≤ 32
        · have g2 : decide ((s.size : Int) ≤ 32) = true := decide_eq_true (by omega)
          have g2n : decide (s.size ≤ 32) = true := decide_eq_true (by omega)
          have HN := Lib.hid (show RightP s from ⟨h1, h2, fun j h => HALL.out j h h⟩)
          clear h1 h2
          go_wp2_with fail
          go_ret
          exact ⟨by rw [decide_eq_true HN.out]; rfl, rfl⟩
        · have g2 : decide ((s.size : Int) ≤ 32) = false := decide_eq_false (by omega)
          have g2n : decide (s.size ≤ 32) = false := decide_eq_false (by omega)
          have HN := Lib.hid (show ¬ RightP s from fun h => h2 h.2.1)
          clear h1 h2
          go_wp2_with fail
          go_ret
          exact ⟨by rw [decide_eq_false HN.out]; rfl, rfl⟩
      · have g1 : decide ((1 : Int) ≤ (s.size : Int)) = false := decide_eq_false (by omega)
        have g1n : decide (1 ≤ s.size) = false := decide_eq_false (by omega)
        have HN := Lib.hid (show ¬ RightP s from fun h => h1 h.1)
        clear h1
        go_wp2_with fail
        go_ret
        exact ⟨by rw [decide_eq_false HN.out]; rfl, rfl⟩

/-- Where a path stands, as Find tells it. -/
def findI (fs : List FileM) (p : ByteArray) : Int := match findF fs p with
  | some i => (i : Int)
  | none => -1
theorem findF_at : ∀ {fs : List FileM} {p : ByteArray} {i : Nat} {f : FileM}, (∀ j g, j < i → fs[j]? = some g → g.path ≠ p) → fs[i]? = some f → f.path = p → findF fs p = some i
  | [], p, i, f, _, h, _ => by simp at h
  | a :: r, p, 0, f, _, h, hp => by
    simp at h
    subst h
    unfold findF
    rw [if_pos hp]
  | a :: r, p, i + 1, f, hn, h, hp => by
    unfold findF
    rw [if_neg (hn 0 a (by omega) rfl), findF_at (fs := r) (i := i) (f := f) (fun j g hj hg => hn (j + 1) g (by omega) (by simpa using hg)) (by simpa using h) hp]
    rfl
theorem findF_end {fs : List FileM} {p : ByteArray} (h : ∀ j g, j < fs.length → fs[j]? = some g → g.path ≠ p) : findF fs p = none := by
  rw [findF_none]
  intro f hf
  obtain ⟨j, hj, e⟩ := List.mem_iff_getElem.1 hf
  exact h j f hj (by rw [List.getElem?_eq_getElem hj, e])
set_option maxRecDepth 100000 in
set_option maxHeartbeats 1000000 in
theorem ref_find (fs : List FileM) (A : Option Addr) (n c : Nat) (p : ByteArray) (w : World) (hat : FilesAt w A fs) (hn : n = fs.length) (hl : fs.length ≤ 1099511627776) :
    Calls Try.prog 33 #[.slice A n c, .string p] w fun e w' => e = .returned (.int .i64 (findI fs p)) ∧ w = w' := by
  have HAT := Lib.hid hat
  have HNN := Lib.hid hn
  have hn40 : n ≤ 1099511627776 := by omega
  clear hat hn hl
  go_enter Try.func33, Try.ntmps33
  go_wp2_with fail
  go_loopw [5] (fun iv wr => ∃ i : Nat, iv = .int .i64 (i : Int) ∧ i ≤ n ∧ (∀ j g, j < i → fs[j]? = some g → g.path ≠ p) ∧ w = wr) (fun iv _ => n - (intOf iv).toNat)
  case atStart => exact ⟨0, rfl, Nat.zero_le _, fun j _ h => by omega, rfl⟩
  case round =>
    obtain ⟨i, rfl, hi, hall, rfl⟩ := hrel
    have HALL := Lib.hid hall
    by_cases hlt : i < n
    · obtain ⟨f, hf⟩ : ∃ f, fs[i]? = some f := ⟨fs[i]'(by have := HNN.out; omega), List.getElem?_eq_getElem _⟩
      obtain ⟨g, o, rfl, hr⟩ := HAT.out i f hf
      have k0 : w.cell? ⟨g, o + i * 3, none⟩ = some (.string f.path) := hr 0 _ rfl
      have hiI : (i : Int) < (n : Int) := by omega
      have hi0 : (0 : Int) ≤ (i : Int) := by omega
      have HF := Lib.hid hf
      clear hall hf hr
      by_cases hp : f.path = p
      · have g1 : (f.path.toList == p.toList) = true := by rw [peq]; simp [hp]
        have HR := Lib.hid (show findI fs p = (i : Int) by unfold findI; rw [findF_at HALL.out HF.out hp])
        clear hp
        go_wp2_with fail
        go_ret
        exact ⟨by rw [HR.out]; rfl, rfl⟩
      · have g1 : (f.path.toList == p.toList) = false := by rw [peq]; simp [hp]
        have HNX := Lib.hid (show ∀ j g, j < i + 1 → fs[j]? = some g → g.path ≠ p from fun j x hj hx => by
          by_cases e : j = i
          · subst e
            rw [HF.out] at hx
            cases hx
            exact hp
          · exact HALL.out j x (by omega) hx)
        clear hp
        go_wp2_with fail
        go_roundw
        case rel => exact ⟨i + 1, by go_num, by omega, HNX.out, trivial⟩
        case measure => simp [intOf]; omega
    · have hie : i = n := by omega
      subst hie
      have hiI : ¬ (i : Int) < (i : Int) := by omega
      have HR := Lib.hid (show findI fs p = -1 by unfold findI; rw [findF_end (fun j x hj hx => HALL.out j x (by have := HNN.out; omega) hx)])
      clear hall
      go_wp2_with fail
      go_ret
      exact ⟨by rw [HR.out]; rfl, rfl⟩
end Go.Proofs.Ytcjbhjbjkfgphaa

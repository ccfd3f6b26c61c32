/-
  Of many paths of two letters, which are there, and how many: the table of versions beside the files (pure); TreeMany. No condition.
-/
import Derived.Test.YtcjbhjbjkfgphaaTback
namespace Go.Proofs.Ytcjbhjbjkfgphaa
open Go.RowKit Go.Deep Go.Maps Go.Sort

/-- The path of place j of 676. -/
def two (j : Nat) : ByteArray := ⟨#[UInt8.ofNat (97 + j / 26), UInt8.ofNat (97 + j % 26)]⟩
theorem two_of (a b : Nat) (hb : b < 26) : two (a * 26 + b) = ⟨#[UInt8.ofNat (97 + a), UInt8.ofNat (97 + b)]⟩ := by
  unfold two
  rw [show (a * 26 + b) / 26 = a by omega, show (a * 26 + b) % 26 = b by omega]
theorem two_size (j : Nat) : (two j).size = 2 := rfl
theorem two_inj {i j : Nat} (hi : i < 676) (hj : j < 676) (h : two i = two j) : i = j := by
  have h0 : UInt8.ofNat (97 + i / 26) = UInt8.ofNat (97 + j / 26) := by
    have := congrArg (fun b => b.data[0]?) h
    simpa [two] using this
  have h1 : UInt8.ofNat (97 + i % 26) = UInt8.ofNat (97 + j % 26) := by
    have := congrArg (fun b => b.data[1]?) h
    simpa [two] using this
  have e0 := congrArg UInt8.toNat h0
  have e1 := congrArg UInt8.toNat h1
  rw [UInt8.toNat_ofNat', UInt8.toNat_ofNat'] at e0 e1
  omega
theorem two_right {j : Nat} (hj : j < 676) : RightP (two j) := by
  refine ⟨by rw [two_size]; decide, by rw [two_size]; decide, fun i h => ?_⟩
  rw [two_size] at h
  have hi : i = 0 ∨ i = 1 := by omega
  rcases hi with rfl | rfl
  · show 33 ≤ (UInt8.ofNat (97 + j / 26)).toNat ∧ (UInt8.ofNat (97 + j / 26)).toNat ≤ 126
    rw [UInt8.toNat_ofNat']
    omega
  · show 33 ≤ (UInt8.ofNat (97 + j % 26)).toNat ∧ (UInt8.ofNat (97 + j % 26)).toNat ≤ 126
    rw [UInt8.toNat_ofNat']
    omega
theorem getF_put_ne : ∀ {fs : List FileM} {f : FileM} {p : ByteArray}, p ≠ f.path → getF (putF fs f) p = getF fs p
  | [], f, p, h => by simp [putF, getF, Ne.symm h]
  | g :: r, f, p, h => by
    unfold putF
    split
    · simp [getF, Ne.symm h]
    · split
      · rename_i he
        have hg : g.path ≠ p := fun e => h (by rw [← e, he])
        simp [getF, Ne.symm h, hg]
      · have ih := getF_put_ne (fs := r) h
        unfold getF at ih ⊢
        by_cases hg : g.path = p
        · rw [List.find?_cons_of_pos (by simpa using hg), List.find?_cons_of_pos (by simpa using hg)]
        · rw [List.find?_cons_of_neg (by simpa using hg), List.find?_cons_of_neg (by simpa using hg)]
          exact ih
theorem getF_drop_ne : ∀ {fs : List FileM} {q p : ByteArray}, p ≠ q → getF (dropF fs q) p = getF fs p
  | [], q, p, h => rfl
  | g :: r, q, p, h => by
    have ih := getF_drop_ne (fs := r) h
    unfold getF dropF at ih ⊢
    by_cases hq : g.path = q
    · rw [List.filter_cons_of_neg (by simpa using hq), List.find?_cons_of_neg (by simpa using fun e => h (by rw [← e, hq]))]
      exact ih
    · rw [List.filter_cons_of_pos (by simpa using hq)]
      by_cases hg : g.path = p
      · rw [List.find?_cons_of_pos (by simpa using hg), List.find?_cons_of_pos (by simpa using hg)]
      · rw [List.find?_cons_of_neg (by simpa using hg), List.find?_cons_of_neg (by simpa using hg)]
        exact ih
theorem length_put_new : ∀ {fs : List FileM} {f : FileM}, findF fs f.path = none → (putF fs f).length = fs.length + 1
  | [], f, _ => rfl
  | g :: r, f, h => by
    have hall := findF_none.1 h
    unfold putF
    split
    · rfl
    · rw [if_neg fun e => hall g List.mem_cons_self e.symm, List.length_cons, length_put_new (findF_none.2 fun x hx => hall x (List.mem_cons_of_mem _ hx)), List.length_cons]
theorem length_drop_in : ∀ {fs : List FileM} {p : ByteArray}, Rising fs → findF fs p ≠ none → (dropF fs p).length + 1 = fs.length
  | [], p, _, h => absurd rfl h
  | g :: r, p, ⟨h1, h2⟩, h => by
    by_cases hg : g.path = p
    · have hn : dropF r p = r := dropF_none (findF_none.2 fun x hx e => pless_ne (h1 x hx) (by rw [hg, e]))
      unfold dropF at hn ⊢
      rw [List.filter_cons_of_neg (by simpa using hg), hn, List.length_cons]
    · have hr : findF r p ≠ none := fun e => h (by unfold findF; rw [if_neg hg, e]; rfl)
      have ih := length_drop_in h2 hr
      unfold dropF at ih ⊢
      rw [List.filter_cons_of_pos (by simpa using hg), List.length_cons, List.length_cons, ih]
theorem length_put {fs : List FileM} {f : FileM} (hr : Rising fs) : (putF fs f).length = fs.length + if findF fs f.path = none then 1 else 0 := by
  by_cases h : findF fs f.path = none
  · rw [if_pos h, length_put_new h]
  · rw [if_neg h, ← putF_drop hr, length_put_new (find_drop fs f.path), length_drop_in hr h]
    rfl

/-- How many of the first m places hold a version. -/
def cntTo (th : Nat → Nat) : Nat → Nat
  | 0 => 0
  | m + 1 => cntTo th m + if 0 < th m then 1 else 0
def setTh (th : Nat → Nat) (j v : Nat) : Nat → Nat := fun i => if i = j then v else th i
theorem cnt_set (th : Nat → Nat) (j v : Nat) (hv : 0 < v) : ∀ m, cntTo (setTh th j v) m = cntTo th m + if j < m ∧ th j = 0 then 1 else 0
  | 0 => by simp [cntTo]
  | m + 1 => by
    unfold cntTo
    rw [cnt_set th j v hv m]
    unfold setTh
    by_cases hm : m = j
    · subst hm
      rw [if_pos rfl, if_pos hv, if_neg (by omega)]
      by_cases h0 : th m = 0
      · rw [h0, if_neg (by omega), if_pos ⟨by omega, rfl⟩]
      · rw [if_pos (by omega), if_neg (by omega)]
    · rw [if_neg hm]
      by_cases h0 : j < m ∧ th j = 0
      · rw [if_pos h0, if_pos (show j < m + 1 ∧ th j = 0 from ⟨by omega, h0.2⟩)]
        omega
      · rw [if_neg h0, if_neg (show ¬ (j < m + 1 ∧ th j = 0) from fun e => h0 ⟨by omega, e.2⟩)]
        omega
theorem cnt_zero (th : Nat → Nat) (j : Nat) : ∀ m, cntTo (setTh th j 0) m + (if j < m ∧ 0 < th j then 1 else 0) = cntTo th m
  | 0 => by simp [cntTo]
  | m + 1 => by
    unfold cntTo
    have ih := cnt_zero th j m
    unfold setTh at ih ⊢
    by_cases hm : m = j
    · subst hm
      rw [if_neg (by omega)] at ih
      rw [if_pos rfl, if_neg (by omega)]
      by_cases h0 : 0 < th m
      · rw [if_pos ⟨by omega, h0⟩, if_pos h0]
        omega
      · rw [if_neg (by omega), if_neg h0]
        omega
    · rw [if_neg hm]
      by_cases h0 : j < m ∧ 0 < th j
      · rw [if_pos h0] at ih
        rw [if_pos (show j < m + 1 ∧ 0 < th j from ⟨by omega, h0.2⟩)]
        omega
      · rw [if_neg h0] at ih
        rw [if_neg (show ¬ (j < m + 1 ∧ 0 < th j) from fun e => h0 ⟨by omega, e.2⟩)]
        omega
theorem cnt_none : ∀ m, cntTo (fun _ => 0) m = 0
  | 0 => rfl
  | m + 1 => by
    unfold cntTo
    rw [cnt_none m]
    rfl
/-- The table tells of the files. -/
def Many (fs : List FileM) (th : Nat → Nat) : Prop := (∀ j, j < 676 → (getF fs (two j)).2.1 = (th j : Int) ∧ (findF fs (two j) = none ↔ th j = 0)) ∧ fs.length = cntTo th 676
theorem Many.nil : Many [] fun _ => 0 := ⟨fun _ _ => ⟨rfl, by simp [findF]⟩, (cnt_none 676).symm⟩
theorem find_get {fs : List FileM} {p : ByteArray} : findF fs p = none ↔ (getF fs p).2.2 = false := by
  constructor
  · intro h
    rw [getF_none h]
  · intro h
    cases hf : findF fs p with
    | none => rfl
    | some i =>
      obtain ⟨f, hi, _⟩ := findF_some hf
      rw [getF_some hf hi] at h
      cases h
theorem Many.set {fs : List FileM} {th : Nat → Nat} (h : Many fs th) (hr : Rising fs) {j v : Nat} (hj : j < 676) (hv : 0 < v) (t : ByteArray) : Many (putF fs ⟨two j, (v : Int), t⟩) (setTh th j v) := by
  refine ⟨fun i hi => ?_, ?_⟩
  · by_cases hij : i = j
    · subst hij
      have hg := get_put fs ⟨two i, (v : Int), t⟩
      dsimp only at hg
      refine ⟨by rw [hg]; simp [setTh], ?_⟩
      rw [find_get, hg]
      simp [setTh]
      omega
    · have hg : getF (putF fs ⟨two j, (v : Int), t⟩) (two i) = getF fs (two i) := getF_put_ne fun e => hij (two_inj hi hj e)
      rw [find_get, hg, ← find_get]
      simp only [setTh, if_neg hij]
      exact h.1 i hi
  · rw [length_put hr, cnt_set th j v hv, h.2]
    dsimp only
    by_cases h0 : th j = 0
    · rw [if_pos ((h.1 j hj).2.2 h0), if_pos ⟨hj, h0⟩]
    · rw [if_neg fun e => h0 ((h.1 j hj).2.1 e), if_neg fun e => h0 e.2]
theorem Many.drop {fs : List FileM} {th : Nat → Nat} (h : Many fs th) (hr : Rising fs) {j : Nat} (hj : j < 676) : Many (dropF fs (two j)) (setTh th j 0) := by
  refine ⟨fun i hi => ?_, ?_⟩
  · by_cases hij : i = j
    · subst hij
      have hf := find_drop fs (two i)
      refine ⟨by rw [getF_none hf]; simp [setTh], by rw [hf]; simp [setTh]⟩
    · have hg : getF (dropF fs (two j)) (two i) = getF fs (two i) := getF_drop_ne fun e => hij (two_inj hi hj e)
      rw [find_get, hg, ← find_get]
      simp only [setTh, if_neg hij]
      exact h.1 i hi
  · have hc := cnt_zero th j 676
    by_cases h0 : th j = 0
    · rw [if_neg (by omega)] at hc
      rw [dropF_none ((h.1 j hj).2.2 h0), h.2]
      omega
    · rw [if_pos ⟨hj, by omega⟩] at hc
      have := length_drop_in hr (fun e => h0 ((h.1 j hj).2.1 e))
      have h2 := h.2
      omega
end Go.Proofs.Ytcjbhjbjkfgphaa

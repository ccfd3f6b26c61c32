/-
  class.span, class.byteOfItem, and class.item of a text that does not begin with a name. Conditions: those named at each law.
-/
import Derived.Test.YtbehbbmhkkidfaaCwith
import Derived.Test.YtbehbbmhkkidfaaCpre
import Derived.Test.YtbehbbmhkkidfaaShelf
namespace Go.Proofs.Ytbehbbmhkkidfaa
open Go.RowKit

/-- What a new box of four words still has, whatever was made behind it. -/
theorem box4 {w w1 : World} {v0 v1 v2 v3 : Value} {t : TypeId} {n : Nat} (h : Below n (w.alloc (.cells #[v0, v1, v2, v3] t)) w1) (hn : w.heap.size < n) :
    (w1.cell? ⟨w.heap.size, 0, none⟩ = some v0 ∧ w1.cell? ⟨w.heap.size, 1, none⟩ = some v1 ∧ w1.cell? ⟨w.heap.size, 2, none⟩ = some v2 ∧ w1.cell? ⟨w.heap.size, 3, none⟩ = some v3) ∧
    (w1.frozen? ⟨w.heap.size, 0, none⟩ = false ∧ w1.frozen? ⟨w.heap.size, 1, none⟩ = false ∧ w1.frozen? ⟨w.heap.size, 2, none⟩ = false ∧ w1.frozen? ⟨w.heap.size, 3, none⟩ = false) := by
  refine ⟨⟨?_, ?_, ?_, ?_⟩, ?_, ?_, ?_, ?_⟩
  all_goals first | (rw [h.cell hn]; simp [go_sem]) | (rw [h.frozen hn]; simp [go_sem])
theorem below4 {B : Nat} {w w1 : World} (h : Below B w w1) {b : Nat} (hb : B ≤ b) (v0 v1 v2 v3 : Value) : Below B w ((((w1.setCell ⟨b, 0, none⟩ v0).setCell ⟨b, 1, none⟩ v1).setCell ⟨b, 2, none⟩ v2).setCell ⟨b, 3, none⟩ v3) :=
  (((h.setCell hb _).setCell hb _).setCell hb _).setCell hb _

set_option maxRecDepth 100000 in
theorem span_is (lo hi : Nat) (hlo : lo < 256) (hhi : hi < 256) (w : World) : Calls Try.prog 51 #[.int .u8 (lo : Int), .int .u8 (hi : Int)] w fun e w' => e = .returned (setV (withS noS lo hi)) ∧ Below w.heap.size w w' := by
  have H := Lib.hid fun (W : World) => with_is noS lo hi OkS.no hlo hhi W
  obtain ⟨A, hA⟩ : ∃ A, A = withS noS lo hi := ⟨_, rfl⟩
  rw [← hA] at H ⊢
  clear hlo hhi hA
  go_enter Try.func51, Try.ntmps51
  go_wp2_with fail
  go_at_call 42
  have h0 := H.out (w.alloc (.cells #[.int .u64 0, .int .u64 0, .int .u64 0, .int .u64 0] 27))
  unfold setV noS at h0
  refine h0.mono ?_
  rintro e w1 ⟨rfl, hb1⟩
  obtain ⟨⟨k0, k1, k2, k3⟩, f0, f1, f2, f3⟩ := box4 hb1 (by simp)
  have HB := Lib.hid ((((Below.refl _ w).alloc (Nat.le_refl _) _)).trans (hb1.mono (by simp)))
  clear hb1 h0
  go_wp2_with fail
  refine bodyPost_ret (v := setV A) (by simp [results, Try.results51, go_sem, setV, k0, k1, k2, k3]) rfl ⟨rfl, ?_⟩
  exact below4 HB.out (Nat.le_refl _) _ _ _ _

/-- Whether an item may have the byte that a text begins with. -/
def byteOf : List UInt8 → Bool
  | [] => false
  | [c] => c != 10
  | c :: d :: _ => c != 10 && (c != 91 || !(d == 58 || d == 46 || d == 61))
theorem isEmpty_of {s : ByteArray} : s.toList.isEmpty = s.data.toList.isEmpty := by rw [ByteArray.toList_eq]
theorem at_of {s : ByteArray} {l : List UInt8} (h : s.data.toList = l) {i : Nat} {c : UInt8} (hc : l[i]? = some c) : ∀ h : i < s.size, s[i]'h = c := by
  intro hi
  subst h
  have : s.data[i]? = some c := by simpa using hc
  have h2 : s.data[i]'hi = c := by
    rw [Array.getElem?_eq_getElem hi] at this
    exact Option.some.inj this
  exact h2
theorem size_of {s : ByteArray} {l : List UInt8} (h : s.data.toList = l) : s.size = l.length := by rw [← h]; simp
theorem drop_of (s : ByteArray) (n : Nat) : (s.extract n s.size).data.toList = s.data.toList.drop n := by
  rw [show (s.extract n s.size).data.toList = (s.data.toList.drop n).take (s.size - n) by simp [List.extract_eq_take_drop], List.take_of_length_le (by simp)]
theorem u8_test (c : UInt8) (n : Nat) (k : UInt8) (hk : k.toNat = n) : (((c.toNat : Nat) : Int) == (n : Int)) = (c == k) := by
  rw [Bool.eq_iff_iff]
  simp only [beq_iff_eq]
  constructor
  · intro h
    apply UInt8.toNat_inj.1
    omega
  · intro h
    subst h
    omega
theorem mid_byte {s : ByteArray} {c d : UInt8} {r : List UInt8} (h : s.data.toList = c :: d :: r) : s.extract 1 2 = ⟨#[d]⟩ := by
  apply ByteArray.ext
  apply Array.toList_inj.1
  simp [h]
theorem run_mid {s : ByteArray} {c d : UInt8} {r : List UInt8} (h : s.data.toList = c :: d :: r) (w : World) : (Instr.slice 9 (.string s) (some (.int .i64 1)) (some (.int .i64 2)) none).run Try.prog w = .ok (.string ⟨#[d]⟩) w := by
  have hs := size_of h
  have hs2 : 2 ≤ s.size := by rw [hs]; simp
  have hs3 : (2 : Int) ≤ (s.size : Int) := by omega
  simp [Instr.slice, go_sem, hs3, mid_byte h]
theorem one_of (d : UInt8) : decide (0 ≤ Lib.indexByte [58, 46, 61] d) = (d == 58 || d == 46 || d == 61) := by
  by_cases h1 : d = 58
  · subst h1; rfl
  · by_cases h2 : d = 46
    · subst h2; rfl
    · by_cases h3 : d = 61
      · subst h3; rfl
      · rw [beq_eq_false_iff_ne.2 h1, beq_eq_false_iff_ne.2 h2, beq_eq_false_iff_ne.2 h3]
        simp [Lib.indexByte, Ne.symm h1, Ne.symm h2, Ne.symm h3]
set_option maxRecDepth 100000 in
theorem byte_of (s : ByteArray) (w : World) : Calls Try.prog 50 #[.string s] w fun e w' => e = .returned (.bool (byteOf s.data.toList)) ∧ w' = w := by
  have hem := isEmpty_of (s := s)
  match hl : s.data.toList with
  | [] =>
    rw [hl] at hem
    have hem2 : s.toList.isEmpty = true := hem
    clear hem hl
    go_enter Try.func50, Try.ntmps50
    go_wp2_with fail
    go_ret
    exact ⟨rfl, rfl⟩
  | c :: r =>
    have hem2 : s.toList.isEmpty = false := by rw [hem, hl]; rfl
    clear hem
    have hz := size_of hl
    have h0 := at_of hl (i := 0) (c := c) rfl
    have hs : 0 < s.size := by rw [hz]; simp
    have e10 := u8_test c 10 10 rfl
    have e91 := u8_test c 91 91 rfl
    by_cases c10 : c = 10
    · have t10 : ((c.toNat : Int) == 10) = true := by rw [show (10 : Int) = ((10 : Nat) : Int) from rfl, e10, beq_iff_eq]; exact c10
      have HB := Lib.hid (show byteOf (c :: r) = false by subst c10; cases r <;> rfl)
      clear e10 e91 c10 hl hz
      go_enter Try.func50, Try.ntmps50
      go_wp2_with fail
      go_ret
      exact ⟨by rw [HB.out]; rfl, rfl⟩
    · have t10 : ((c.toNat : Int) == 10) = false := by rw [show (10 : Int) = ((10 : Nat) : Int) from rfl, e10, beq_eq_false_iff_ne]; exact c10
      have c10' : (c != 10) = true := by simp [c10]
      by_cases c91 : c = 91
      · have t91 : ((c.toNat : Int) == 91) = true := by rw [show (91 : Int) = ((91 : Nat) : Int) from rfl, e91, beq_iff_eq]; exact c91
        have t91' : ((c.toNat : Int) != 91) = false := by simp [bne, t91]
        match r with
        | [] =>
          have hz1 : ((s.size : Int) == 1) = true := by rw [beq_iff_eq]; simp [hz]
          have HB := Lib.hid (show byteOf [c] = true from c10')
          clear e10 e91 c10 c10' c91 hl hz t91
          go_enter Try.func50, Try.ntmps50
          go_wp2_with fail
          go_ret
          exact ⟨by rw [HB.out]; rfl, rfl⟩
        | d :: q =>
          have hz1 : ((s.size : Int) == 1) = false := by rw [beq_eq_false_iff_ne]; rw [hz]; simp only [List.length_cons]; omega
          have hsl := run_mid hl
          have c91' : (c != 91) = false := by simp [c91]
          have HB := Lib.hid (show byteOf (c :: d :: q) = !(d == 58 || d == 46 || d == 61) by show (c != 10 && (c != 91 || _)) = _; rw [c10', c91', Bool.true_and, Bool.false_or])
          have HC := Lib.hid (show Calls Try.prog 56 #[.string ⟨#[58, 46, 61]⟩, .string ⟨#[d]⟩] w fun e w' => e = .returned (.bool (decide (0 ≤ Lib.indexByte [58, 46, 61] d))) ∧ w' = w from Try.strings_Contains_one _ _ _)
          rw [one_of] at HC
          obtain ⟨z, hzz⟩ : ∃ z, z = (d == 58 || d == 46 || d == 61) := ⟨_, rfl⟩
          rw [← hzz] at HB HC
          clear e10 e91 c10 c10' c91 c91' hl hz t91 hzz
          go_enter Try.func50, Try.ntmps50
          go_wp2_with fail
          go_at_call 56
          refine HC.out.mono ?_
          rintro e w1 ⟨rfl, rfl⟩
          go_wp2_with fail
          go_ret
          exact ⟨by rw [HB.out]; rfl, rfl⟩
      · have t91 : ((c.toNat : Int) == 91) = false := by rw [show (91 : Int) = ((91 : Nat) : Int) from rfl, e91, beq_eq_false_iff_ne]; exact c91
        have t91' : ((c.toNat : Int) != 91) = true := by simp [bne, t91]
        have HB := Lib.hid (show byteOf (c :: r) = true by
          cases r with
          | nil => exact c10'
          | cons d q => show (c != 10 && (c != 91 || _)) = true; rw [c10', show (c != 91) = true by simp [c91]]; rfl)
        clear e10 e91 c10 c10' c91 hl hz t91
        go_enter Try.func50, Try.ntmps50
        go_wp2_with fail
        go_ret
        exact ⟨by rw [HB.out]; rfl, rfl⟩
/-- The item that a text begins with, which does not begin with a name: its set, and its length, 0 if there is none. -/
def itmP : List UInt8 → (Nat → Nat) × Nat
  | [] => (noS, 0)
  | [c] => if byteOf [c] = true then (withS noS c.toNat c.toNat, 1) else (noS, 0)
  | [c, d] => if byteOf [c, d] = true then (withS noS c.toNat c.toNat, 1) else (noS, 0)
  | c :: d :: e :: q =>
    if byteOf (c :: d :: e :: q) = true then
      if d = 45 ∧ e ≠ 93 then if byteOf (e :: q) = true ∧ c.toNat ≤ e.toNat then (withS noS c.toNat e.toNat, 3) else (noS, 0)
      else (withS noS c.toNat c.toNat, 1)
    else (noS, 0)
def ItemC (M : World → Prop) (s : ByteArray) (r : (Nat → Nat) × Nat) : Prop := ∀ w : World, M w → Calls Try.prog 44 #[.string s] w fun e w' => e = .returned (.tuple #[setV r.1, .int .i64 (r.2 : Int)]) ∧ Below w.heap.size w w'
theorem itm_none {l : List UInt8} (h : byteOf l = false) : itmP l = (noS, 0) := by
  match l with
  | [] => rfl
  | [c] => simp [itmP, h]
  | [c, d] => simp [itmP, h]
  | c :: d :: e :: q => simp [itmP, h]

set_option maxRecDepth 100000 in
theorem item_none (s : ByteArray) (hbo : byteOf s.data.toList = false) (hp : pre ⟨#[91, 58]⟩ s = false) (w : World) : Calls Try.prog 44 #[.string s] w fun e w' => e = .returned (.tuple #[setV noS, .int .i64 0]) ∧ Below w.heap.size w w' := by
  have HCP := Lib.hid (cut_prefix s ⟨#[91, 58]⟩)
  rw [hp] at HCP
  simp only [Bool.false_eq_true, if_false] at HCP
  have HBO := Lib.hid (byte_of s)
  rw [hbo] at HBO
  clear hp hbo
  go_enter Try.func44, Try.ntmps44
  go_wp2_with fail
  go_at_call 48
  refine (HCP.out _).mono ?_
  rintro e0 w0 ⟨rfl, rfl⟩
  go_wp2_with fail
  go_at_call 50
  refine (HBO.out _).mono ?_
  rintro e0 w0 ⟨rfl, rfl⟩
  go_wp2_with fail
  refine bodyPost_ret (v := .tuple #[setV noS, .int .i64 0]) (by simp [results, Try.results44, go_sem, setV, noS]) rfl ⟨rfl, ?_⟩
  exact (Below.refl _ w).alloc (Nat.le_refl _) _

set_option maxRecDepth 100000 in
theorem item_short (s : ByteArray) {c : UInt8} {r : List UInt8} (hl : s.data.toList = c :: r) (hr : r.length < 2) (hbo : byteOf s.data.toList = true) (hp : pre ⟨#[91, 58]⟩ s = false) (w : World) : Calls Try.prog 44 #[.string s] w fun e w' => e = .returned (.tuple #[setV (withS noS c.toNat c.toNat), .int .i64 1]) ∧ Below w.heap.size w w' := by
  have HCP := Lib.hid (cut_prefix s ⟨#[91, 58]⟩)
  rw [hp] at HCP
  simp only [Bool.false_eq_true, if_false] at HCP
  have HBO := Lib.hid (byte_of s)
  rw [hbo] at HBO
  have h0 := at_of hl (i := 0) (c := c) rfl
  have hs : 0 < s.size := by rw [size_of hl]; simp
  have h3 : ((s.size : Int) < 3) := by rw [size_of hl]; simp only [List.length_cons]; omega
  clear hp hbo hl hr
  have HS := Lib.hid fun (W : World) => span_is c.toNat c.toNat (by exact UInt8.toNat_lt _) (by exact UInt8.toNat_lt _) W
  obtain ⟨A, hA⟩ : ∃ A, A = withS noS c.toNat c.toNat := ⟨_, rfl⟩
  rw [← hA] at HS ⊢
  clear hA
  go_enter Try.func44, Try.ntmps44
  go_wp2_with fail
  go_at_call 48
  refine (HCP.out _).mono ?_
  rintro e0 w0 ⟨rfl, rfl⟩
  go_wp2_with fail
  go_at_call 50
  refine (HBO.out _).mono ?_
  rintro e0 w0 ⟨rfl, rfl⟩
  go_wp2_with fail
  go_at_call 51
  refine (HS.out _).mono ?_
  unfold setV
  rintro e1 w1 ⟨rfl, hb1⟩
  obtain ⟨⟨k0, k1, k2, k3⟩, f0, f1, f2, f3⟩ := box4 hb1 (by simp)
  have HB := Lib.hid ((((Below.refl _ w).alloc (Nat.le_refl _) _)).trans (hb1.mono (by simp)))
  clear hb1
  go_wp2_with fail
  refine bodyPost_ret (v := .tuple #[setV A, .int .i64 1]) (by simp [results, Try.results44, go_sem, setV, k0, k1, k2, k3]) rfl ⟨rfl, ?_⟩
  exact below4 HB.out (Nat.le_refl _) _ _ _ _

set_option maxRecDepth 100000 in
theorem item_plain (s : ByteArray) {c d k : UInt8} {q : List UInt8} (hl : s.data.toList = c :: d :: k :: q) (hbo : byteOf s.data.toList = true) (hd : d ≠ 45) (hp : pre ⟨#[91, 58]⟩ s = false) (w : World) : Calls Try.prog 44 #[.string s] w fun e w' => e = .returned (.tuple #[setV (withS noS c.toNat c.toNat), .int .i64 1]) ∧ Below w.heap.size w w' := by
  have HCP := Lib.hid (cut_prefix s ⟨#[91, 58]⟩)
  rw [hp] at HCP
  simp only [Bool.false_eq_true, if_false] at HCP
  have HBO := Lib.hid (byte_of s)
  rw [hbo] at HBO
  have h0 := at_of hl (i := 0) (c := c) rfl
  have hs : 0 < s.size := by rw [size_of hl]; simp
  have h1 := at_of hl (i := 1) (c := d) rfl
  have h2 := at_of hl (i := 2) (c := k) rfl
  have h3 : (3 : Int) ≤ (s.size : Int) := by rw [size_of hl]; simp only [List.length_cons]; omega
  have h3n : 3 ≤ s.size := by omega
  have h3m : 2 < s.size := by omega
  have h3k : 1 < s.size := by omega
  have e45 : ((d.toNat : Int) != 45) = true := by rw [bne, show (45 : Int) = ((45 : Nat) : Int) from rfl, u8_test d 45 45 rfl]; simp [hd]
  clear hp hbo hl hd h3 h2 h3m
  have HS := Lib.hid fun (W : World) => span_is c.toNat c.toNat (by exact UInt8.toNat_lt _) (by exact UInt8.toNat_lt _) W
  obtain ⟨A, hA⟩ : ∃ A, A = withS noS c.toNat c.toNat := ⟨_, rfl⟩
  rw [← hA] at HS ⊢
  clear hA
  go_enter Try.func44, Try.ntmps44
  go_wp2_with fail
  go_at_call 48
  refine (HCP.out _).mono ?_
  rintro e0 w0 ⟨rfl, rfl⟩
  go_wp2_with fail
  go_at_call 50
  refine (HBO.out _).mono ?_
  rintro e0 w0 ⟨rfl, rfl⟩
  go_wp2_with fail
  go_at_call 51
  refine (HS.out _).mono ?_
  unfold setV
  rintro e1 w1 ⟨rfl, hb1⟩
  obtain ⟨⟨k0, k1, k2, k3⟩, f0, f1, f2, f3⟩ := box4 hb1 (by simp)
  have HB := Lib.hid ((((Below.refl _ w).alloc (Nat.le_refl _) _)).trans (hb1.mono (by simp)))
  clear hb1
  go_wp2_with fail
  refine bodyPost_ret (v := .tuple #[setV A, .int .i64 1]) (by simp [results, Try.results44, go_sem, setV, k0, k1, k2, k3]) rfl ⟨rfl, ?_⟩
  exact below4 HB.out (Nat.le_refl _) _ _ _ _

set_option maxRecDepth 100000 in
theorem item_dash (s : ByteArray) {c d k : UInt8} {q : List UInt8} (hl : s.data.toList = c :: d :: k :: q) (hbo : byteOf s.data.toList = true) (hd : d = 45) (he : k = 93) (hp : pre ⟨#[91, 58]⟩ s = false) (w : World) : Calls Try.prog 44 #[.string s] w fun e w' => e = .returned (.tuple #[setV (withS noS c.toNat c.toNat), .int .i64 1]) ∧ Below w.heap.size w w' := by
  have HCP := Lib.hid (cut_prefix s ⟨#[91, 58]⟩)
  rw [hp] at HCP
  simp only [Bool.false_eq_true, if_false] at HCP
  have HBO := Lib.hid (byte_of s)
  rw [hbo] at HBO
  have h0 := at_of hl (i := 0) (c := c) rfl
  have hs : 0 < s.size := by rw [size_of hl]; simp
  have h1 := at_of hl (i := 1) (c := d) rfl
  have h2 := at_of hl (i := 2) (c := k) rfl
  have h3 : (3 : Int) ≤ (s.size : Int) := by rw [size_of hl]; simp only [List.length_cons]; omega
  have h3n : 3 ≤ s.size := by omega
  have h3m : 2 < s.size := by omega
  have h3k : 1 < s.size := by omega
  have e45 : ((d.toNat : Int) != 45) = false := by rw [bne, show (45 : Int) = ((45 : Nat) : Int) from rfl, u8_test d 45 45 rfl]; simp [hd]
  have e93 : ((k.toNat : Int) == 93) = true := by rw [show (93 : Int) = ((93 : Nat) : Int) from rfl, u8_test k 93 93 rfl]; simp [he]
  clear hp hbo hl hd he h3
  have HS := Lib.hid fun (W : World) => span_is c.toNat c.toNat (by exact UInt8.toNat_lt _) (by exact UInt8.toNat_lt _) W
  obtain ⟨A, hA⟩ : ∃ A, A = withS noS c.toNat c.toNat := ⟨_, rfl⟩
  rw [← hA] at HS ⊢
  clear hA
  go_enter Try.func44, Try.ntmps44
  go_wp2_with fail
  go_at_call 48
  refine (HCP.out _).mono ?_
  rintro e0 w0 ⟨rfl, rfl⟩
  go_wp2_with fail
  go_at_call 50
  refine (HBO.out _).mono ?_
  rintro e0 w0 ⟨rfl, rfl⟩
  go_wp2_with fail
  go_at_call 51
  refine (HS.out _).mono ?_
  unfold setV
  rintro e1 w1 ⟨rfl, hb1⟩
  obtain ⟨⟨k0, k1, k2, k3⟩, f0, f1, f2, f3⟩ := box4 hb1 (by simp)
  have HB := Lib.hid ((((Below.refl _ w).alloc (Nat.le_refl _) _)).trans (hb1.mono (by simp)))
  clear hb1
  go_wp2_with fail
  refine bodyPost_ret (v := .tuple #[setV A, .int .i64 1]) (by simp [results, Try.results44, go_sem, setV, k0, k1, k2, k3]) rfl ⟨rfl, ?_⟩
  exact below4 HB.out (Nat.le_refl _) _ _ _ _

set_option maxRecDepth 100000 in
theorem item_bad (s : ByteArray) {c d k : UInt8} {q : List UInt8} (hl : s.data.toList = c :: d :: k :: q) (hbo : byteOf s.data.toList = true) (hd : d = 45) (he : k ≠ 93) (hb2 : byteOf (k :: q) = false) (hp : pre ⟨#[91, 58]⟩ s = false) (w : World) : Calls Try.prog 44 #[.string s] w fun e w' => e = .returned (.tuple #[setV noS, .int .i64 0]) ∧ Below w.heap.size w w' := by
  have HCP := Lib.hid (cut_prefix s ⟨#[91, 58]⟩)
  rw [hp] at HCP
  simp only [Bool.false_eq_true, if_false] at HCP
  have HBO := Lib.hid (byte_of s)
  rw [hbo] at HBO
  have h0 := at_of hl (i := 0) (c := c) rfl
  have hs : 0 < s.size := by rw [size_of hl]; simp
  have h1 := at_of hl (i := 1) (c := d) rfl
  have h2 := at_of hl (i := 2) (c := k) rfl
  have h3 : (3 : Int) ≤ (s.size : Int) := by rw [size_of hl]; simp only [List.length_cons]; omega
  have h3n : 3 ≤ s.size := by omega
  have h3m : 2 < s.size := by omega
  have h3k : 1 < s.size := by omega
  have e45 : ((d.toNat : Int) != 45) = false := by rw [bne, show (45 : Int) = ((45 : Nat) : Int) from rfl, u8_test d 45 45 rfl]; simp [hd]
  have e93 : ((k.toNat : Int) == 93) = false := by rw [show (93 : Int) = ((93 : Nat) : Int) from rfl, u8_test k 93 93 rfl]; simp [he]
  have HB2 := Lib.hid (byte_of (s.extract 2 s.size))
  rw [show (s.extract 2 s.size).data.toList = k :: q by rw [drop_of, hl]; rfl, hb2] at HB2
  clear hp hbo hl hd he hb2 h3
  go_enter Try.func44, Try.ntmps44
  go_wp2_with fail
  go_at_call 48
  refine (HCP.out _).mono ?_
  rintro e0 w0 ⟨rfl, rfl⟩
  go_wp2_with fail
  go_at_call 50
  refine (HBO.out _).mono ?_
  rintro e0 w0 ⟨rfl, rfl⟩
  go_wp2_with fail
  go_at_call 50
  refine (HB2.out _).mono ?_
  rintro e0 w0 ⟨rfl, rfl⟩
  go_wp2_with fail
  refine bodyPost_ret (v := .tuple #[setV noS, .int .i64 0]) (by simp [results, Try.results44, go_sem, setV, noS]) rfl ⟨rfl, ?_⟩
  exact (Below.refl _ w).alloc (Nat.le_refl _) _

set_option maxRecDepth 100000 in
theorem item_fall (s : ByteArray) {c d k : UInt8} {q : List UInt8} (hl : s.data.toList = c :: d :: k :: q) (hbo : byteOf s.data.toList = true) (hd : d = 45) (he : k ≠ 93) (hb2 : byteOf (k :: q) = true) (hf : k.toNat < c.toNat) (hp : pre ⟨#[91, 58]⟩ s = false) (w : World) : Calls Try.prog 44 #[.string s] w fun e w' => e = .returned (.tuple #[setV noS, .int .i64 0]) ∧ Below w.heap.size w w' := by
  have HCP := Lib.hid (cut_prefix s ⟨#[91, 58]⟩)
  rw [hp] at HCP
  simp only [Bool.false_eq_true, if_false] at HCP
  have HBO := Lib.hid (byte_of s)
  rw [hbo] at HBO
  have h0 := at_of hl (i := 0) (c := c) rfl
  have hs : 0 < s.size := by rw [size_of hl]; simp
  have h1 := at_of hl (i := 1) (c := d) rfl
  have h2 := at_of hl (i := 2) (c := k) rfl
  have h3 : (3 : Int) ≤ (s.size : Int) := by rw [size_of hl]; simp only [List.length_cons]; omega
  have h3n : 3 ≤ s.size := by omega
  have h3m : 2 < s.size := by omega
  have h3k : 1 < s.size := by omega
  have e45 : ((d.toNat : Int) != 45) = false := by rw [bne, show (45 : Int) = ((45 : Nat) : Int) from rfl, u8_test d 45 45 rfl]; simp [hd]
  have e93 : ((k.toNat : Int) == 93) = false := by rw [show (93 : Int) = ((93 : Nat) : Int) from rfl, u8_test k 93 93 rfl]; simp [he]
  have HB2 := Lib.hid (byte_of (s.extract 2 s.size))
  rw [show (s.extract 2 s.size).data.toList = k :: q by rw [drop_of, hl]; rfl, hb2] at HB2
  have hfi : (k.toNat : Int) < (c.toNat : Int) := by omega
  clear hp hbo hl hd he hb2 h3
  go_enter Try.func44, Try.ntmps44
  go_wp2_with fail
  go_at_call 48
  refine (HCP.out _).mono ?_
  rintro e0 w0 ⟨rfl, rfl⟩
  go_wp2_with fail
  go_at_call 50
  refine (HBO.out _).mono ?_
  rintro e0 w0 ⟨rfl, rfl⟩
  go_wp2_with fail
  go_at_call 50
  refine (HB2.out _).mono ?_
  rintro e0 w0 ⟨rfl, rfl⟩
  go_wp2_with fail
  refine bodyPost_ret (v := .tuple #[setV noS, .int .i64 0]) (by simp [results, Try.results44, go_sem, setV, noS]) rfl ⟨rfl, ?_⟩
  exact (Below.refl _ w).alloc (Nat.le_refl _) _

set_option maxRecDepth 100000 in
theorem item_range (s : ByteArray) {c d k : UInt8} {q : List UInt8} (hl : s.data.toList = c :: d :: k :: q) (hbo : byteOf s.data.toList = true) (hd : d = 45) (he : k ≠ 93) (hb2 : byteOf (k :: q) = true) (hf : c.toNat ≤ k.toNat) (hp : pre ⟨#[91, 58]⟩ s = false) (w : World) : Calls Try.prog 44 #[.string s] w fun e w' => e = .returned (.tuple #[setV (withS noS c.toNat k.toNat), .int .i64 3]) ∧ Below w.heap.size w w' := by
  have HCP := Lib.hid (cut_prefix s ⟨#[91, 58]⟩)
  rw [hp] at HCP
  simp only [Bool.false_eq_true, if_false] at HCP
  have HBO := Lib.hid (byte_of s)
  rw [hbo] at HBO
  have h0 := at_of hl (i := 0) (c := c) rfl
  have hs : 0 < s.size := by rw [size_of hl]; simp
  have h1 := at_of hl (i := 1) (c := d) rfl
  have h2 := at_of hl (i := 2) (c := k) rfl
  have h3 : (3 : Int) ≤ (s.size : Int) := by rw [size_of hl]; simp only [List.length_cons]; omega
  have h3n : 3 ≤ s.size := by omega
  have h3m : 2 < s.size := by omega
  have h3k : 1 < s.size := by omega
  have e45 : ((d.toNat : Int) != 45) = false := by rw [bne, show (45 : Int) = ((45 : Nat) : Int) from rfl, u8_test d 45 45 rfl]; simp [hd]
  have e93 : ((k.toNat : Int) == 93) = false := by rw [show (93 : Int) = ((93 : Nat) : Int) from rfl, u8_test k 93 93 rfl]; simp [he]
  have HB2 := Lib.hid (byte_of (s.extract 2 s.size))
  rw [show (s.extract 2 s.size).data.toList = k :: q by rw [drop_of, hl]; rfl, hb2] at HB2
  have hfi : ¬ (k.toNat : Int) < (c.toNat : Int) := by omega
  have hfj : (c.toNat : Int) ≤ (k.toNat : Int) := by omega
  clear hp hbo hl hd he hb2 h3 hf
  have HS := Lib.hid fun (W : World) => span_is c.toNat k.toNat (by exact UInt8.toNat_lt _) (by exact UInt8.toNat_lt _) W
  obtain ⟨A, hA⟩ : ∃ A, A = withS noS c.toNat k.toNat := ⟨_, rfl⟩
  rw [← hA] at HS ⊢
  clear hA
  go_enter Try.func44, Try.ntmps44
  go_wp2_with fail
  go_at_call 48
  refine (HCP.out _).mono ?_
  rintro e0 w0 ⟨rfl, rfl⟩
  go_wp2_with fail
  go_at_call 50
  refine (HBO.out _).mono ?_
  rintro e0 w0 ⟨rfl, rfl⟩
  go_wp2_with fail
  go_at_call 50
  refine (HB2.out _).mono ?_
  rintro e0 w0 ⟨rfl, rfl⟩
  go_wp2_with fail
  go_at_call 51
  refine (HS.out _).mono ?_
  unfold setV
  rintro e1 w1 ⟨rfl, hb1⟩
  obtain ⟨⟨k0, k1, k2, k3⟩, f0, f1, f2, f3⟩ := box4 hb1 (by simp)
  have HB := Lib.hid ((((Below.refl _ w).alloc (Nat.le_refl _) _)).trans (hb1.mono (by simp)))
  clear hb1
  go_wp2_with fail
  refine bodyPost_ret (v := .tuple #[setV A, .int .i64 3]) (by simp [results, Try.results44, go_sem, setV, k0, k1, k2, k3]) rfl ⟨rfl, ?_⟩
  exact below4 HB.out (Nat.le_refl _) _ _ _ _

theorem item_is (M : World → Prop) (s : ByteArray) (hp : pre ⟨#[91, 58]⟩ s = false) : ItemC M s (itmP s.data.toList) := by
  intro w _
  by_cases hbo : byteOf s.data.toList = true
  · match hl : s.data.toList with
    | [] => rw [hl] at hbo; cases hbo
    | [c] =>
      have h := item_short s hl (by simp) hbo hp w
      rw [hl] at hbo
      simp only [itmP, hbo, if_true]
      exact h
    | [c, d] =>
      have h := item_short s hl (by simp) hbo hp w
      rw [hl] at hbo
      simp only [itmP, hbo, if_true]
      exact h
    | c :: d :: e :: q =>
      have hbo' := hbo
      rw [hl] at hbo'
      by_cases hd : d = 45
      · by_cases he : e = 93
        · simp only [itmP, hbo', if_true]
          rw [if_neg fun h => h.2 he]
          exact item_dash s hl hbo hd he hp w
        · by_cases hb2 : byteOf (e :: q) = true
          · by_cases hf : c.toNat ≤ e.toNat
            · simp only [itmP, hbo', if_true]
              rw [if_pos ⟨hd, he⟩, if_pos ⟨hb2, hf⟩]
              exact item_range s hl hbo hd he hb2 hf hp w
            · simp only [itmP, hbo', if_true]
              rw [if_pos ⟨hd, he⟩, if_neg fun h => hf h.2]
              exact item_fall s hl hbo hd he hb2 (by omega) hp w
          · simp only [itmP, hbo', if_true]
            rw [if_pos ⟨hd, he⟩, if_neg fun h => hb2 h.1]
            exact item_bad s hl hbo hd he (by simpa using hb2) hp w
      · simp only [itmP, hbo', if_true]
        rw [if_neg fun h => hd h.1]
        exact item_plain s hl hbo hd hp w
  · rw [itm_none (by simpa using hbo)]
    exact item_none s (by simpa using hbo) hp w
end Go.Proofs.Ytbehbbmhkkidfaa

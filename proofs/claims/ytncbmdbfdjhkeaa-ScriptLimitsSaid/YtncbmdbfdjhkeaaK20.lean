import Derived.Test.YtncbmdbfdjhkeaaShelf
import Derived.Test.YtncbmdbfdjhkeaaK19
import Derived.Test.YtncbmdbfdjhkeaaK05
/-
  class.span, class.byteOfItem, and class.item of a text that does not begin with a name. Conditions: those named at each law.
-/
namespace Go.Proofs.Ytncbmdbfdjhkeaa
open Go.RowKit
theorem box4 {w w1 : World} {v0 v1 v2 v3 : Value} {t : TypeId} {n : Nat} (h : Below n (w.alloc (.cells #[v0, v1, v2, v3] t)) w1) (hn : w.heap.size < n) :
    (w1.cell? ⟨w.heap.size, 0, none⟩ = some v0 ∧ w1.cell? ⟨w.heap.size, 1, none⟩ = some v1 ∧ w1.cell? ⟨w.heap.size, 2, none⟩ = some v2 ∧ w1.cell? ⟨w.heap.size, 3, none⟩ = some v3) ∧
    (w1.frozen? ⟨w.heap.size, 0, none⟩ = false ∧ w1.frozen? ⟨w.heap.size, 1, none⟩ = false ∧ w1.frozen? ⟨w.heap.size, 2, none⟩ = false ∧ w1.frozen? ⟨w.heap.size, 3, none⟩ = false) := by
  refine ⟨⟨?_, ?_, ?_, ?_⟩, ?_, ?_, ?_, ?_⟩
  all_goals first | (rw [h.cell hn]; simp [go_sem]) | (rw [h.frozen hn]; simp [go_sem])
theorem below4 {B : Nat} {w w1 : World} (h : Below B w w1) {b : Nat} (hb : B ≤ b) (v0 v1 v2 v3 : Value) : Below B w ((((w1.setCell ⟨b, 0, none⟩ v0).setCell ⟨b, 1, none⟩ v1).setCell ⟨b, 2, none⟩ v2).setCell ⟨b, 3, none⟩ v3) :=
  (((h.setCell hb _).setCell hb _).setCell hb _).setCell hb _
set_option maxRecDepth 100000 in
theorem span_is (lo hi : Nat) (hlo : lo < 256) (hhi : hi < 256) (w : World) : Calls Try.prog 98 #[.int .u8 (lo : Int), .int .u8 (hi : Int)] w fun e w' => e = .returned (setV (withS noS lo hi)) ∧ Below w.heap.size w w' := by
  have H := Lib.hid fun (W : World) => with_is noS lo hi OkS.no hlo hhi W
  obtain ⟨A, hA⟩ : ∃ A, A = withS noS lo hi := ⟨_, rfl⟩
  rw [← hA] at H ⊢
  clear hlo hhi hA
  go_enter Try.func98, Try.ntmps98
  go_wp2_with fail
  go_at_call 92
  have h0 := H.out (w.alloc (.cells #[.int .u64 0, .int .u64 0, .int .u64 0, .int .u64 0] 34))
  unfold setV noS at h0
  refine h0.mono ?_
  rintro e w1 ⟨rfl, hb1⟩
  obtain ⟨⟨k0, k1, k2, k3⟩, f0, f1, f2, f3⟩ := box4 hb1 (by simp)
  have HB := Lib.hid ((((Below.refl _ w).alloc (Nat.le_refl _) _)).trans (hb1.mono (by simp)))
  clear hb1 h0
  go_wp2_with fail
  refine bodyPost_ret (v := setV A) (by simp [results, Try.results98, go_sem, setV, k0, k1, k2, k3]) rfl ⟨rfl, ?_⟩
  exact below4 HB.out (Nat.le_refl _) _ _ _ _
def byteOf : List UInt8 → Bool
  | [] => false
  | [c] => c != 10
  | c :: d :: _ => c != 10 && (c != 91 || !(d == 58 || d == 46 || d == 61))
theorem isEmpty_of {s : ByteArray} : s.toList.isEmpty = s.data.toList.isEmpty := by rw [ByteArray.toList_eq]
theorem at_of {s : ByteArray} {l : List UInt8} (h : s.data.toList = l) {i : Nat} {c : UInt8} (hc : l[i]? = some c) : ∀ h : i < s.size, s[i]'h = c := by
  intro hi
  subst h
  have : s.data[i]? = some c := by simpa using hc
  have h2 : s.data[i]'hi = c := by
    rw [Array.getElem?_eq_getElem hi] at this
    exact Option.some.inj this
  exact h2
theorem size_of {s : ByteArray} {l : List UInt8} (h : s.data.toList = l) : s.size = l.length := by rw [← h]; simp
theorem drop_of (s : ByteArray) (n : Nat) : (s.extract n s.size).data.toList = s.data.toList.drop n := by
  rw [show (s.extract n s.size).data.toList = (s.data.toList.drop n).take (s.size - n) by simp [List.extract_eq_take_drop], List.take_of_length_le (by simp)]
theorem u8_test (c : UInt8) (n : Nat) (k : UInt8) (hk : k.toNat = n) : (((c.toNat : Nat) : Int) == (n : Int)) = (c == k) := by
  rw [Bool.eq_iff_iff]
  simp only [beq_iff_eq]
  constructor
  · intro h
    apply UInt8.toNat_inj.1
    omega
  · intro h
    subst h
    omega
theorem mid_byte {s : ByteArray} {c d : UInt8} {r : List UInt8} (h : s.data.toList = c :: d :: r) : s.extract 1 2 = ⟨#[d]⟩ := by
  apply ByteArray.ext
  apply Array.toList_inj.1
  simp [h]
theorem run_mid {s : ByteArray} {c d : UInt8} {r : List UInt8} (h : s.data.toList = c :: d :: r) (w : World) : (Instr.slice 9 (.string s) (some (.int .i64 1)) (some (.int .i64 2)) none).run Try.prog w = .ok (.string ⟨#[d]⟩) w := by
  have hs := size_of h
  have hs2 : 2 ≤ s.size := by rw [hs]; simp
  have hs3 : (2 : Int) ≤ (s.size : Int) := by omega
  simp [Instr.slice, go_sem, hs3, mid_byte h]
theorem one_of (d : UInt8) : decide (0 ≤ Lib.indexByte [58, 46, 61] d) = (d == 58 || d == 46 || d == 61) := by
  by_cases h1 : d = 58
  · subst h1; rfl
  · by_cases h2 : d = 46
    · subst h2; rfl
    · by_cases h3 : d = 61
      · subst h3; rfl
      · rw [beq_eq_false_iff_ne.2 h1, beq_eq_false_iff_ne.2 h2, beq_eq_false_iff_ne.2 h3]
        simp [Lib.indexByte, Ne.symm h1, Ne.symm h2, Ne.symm h3]
set_option maxRecDepth 100000 in
theorem byte_of (s : ByteArray) (w : World) : Calls Try.prog 97 #[.string s] w fun e w' => e = .returned (.bool (byteOf s.data.toList)) ∧ w' = w := by
  have hem := isEmpty_of (s := s)
  match hl : s.data.toList with
  | [] =>
    rw [hl] at hem
    have hem2 : s.toList.isEmpty = true := hem
    clear hem hl
    go_enter Try.func97, Try.ntmps97
    go_wp2_with fail
    go_ret
    exact ⟨rfl, rfl⟩
  | c :: r =>
    have hem2 : s.toList.isEmpty = false := by rw [hem, hl]; rfl
    clear hem
    have hz := size_of hl
    have h0 := at_of hl (i := 0) (c := c) rfl
    have hs : 0 < s.size := by rw [hz]; simp
    have e10 := u8_test c 10 10 rfl
    have e91 := u8_test c 91 91 rfl
    by_cases c10 : c = 10
    · have t10 : ((c.toNat : Int) == 10) = true := by rw [show (10 : Int) = ((10 : Nat) : Int) from rfl, e10, beq_iff_eq]; exact c10
      have HB := Lib.hid (show byteOf (c :: r) = false by subst c10; cases r <;> rfl)
      clear e10 e91 c10 hl hz
      go_enter Try.func97, Try.ntmps97
      go_wp2_with fail
      go_ret
      exact ⟨by rw [HB.out]; rfl, rfl⟩
    · have t10 : ((c.toNat : Int) == 10) = false := by rw [show (10 : Int) = ((10 : Nat) : Int) from rfl, e10, beq_eq_false_iff_ne]; exact c10
      have c10' : (c != 10) = true := by simp [c10]
      by_cases c91 : c = 91
      · have t91 : ((c.toNat : Int) == 91) = true := by rw [show (91 : Int) = ((91 : Nat) : Int) from rfl, e91, beq_iff_eq]; exact c91
        have t91' : ((c.toNat : Int) != 91) = false := by simp [bne, t91]
        match r with
        | [] =>
          have hz1 : ((s.size : Int) == 1) = true := by rw [beq_iff_eq]; simp [hz]
          have HB := Lib.hid (show byteOf [c] = true from c10')
          clear e10 e91 c10 c10' c91 hl hz t91
          go_enter Try.func97, Try.ntmps97
          go_wp2_with fail
          go_ret
          exact ⟨by rw [HB.out]; rfl, rfl⟩
        | d :: q =>
          have hz1 : ((s.size : Int) == 1) = false := by rw [beq_eq_false_iff_ne]; rw [hz]; simp only [List.length_cons]; omega
          have hsl := run_mid hl
          have c91' : (c != 91) = false := by simp [c91]
          have HB := Lib.hid (show byteOf (c :: d :: q) = !(d == 58 || d == 46 || d == 61) by show (c != 10 && (c != 91 || _)) = _; rw [c10', c91', Bool.true_and, Bool.false_or])
          have HC := Lib.hid (show Calls Try.prog 101 #[.string ⟨#[58, 46, 61]⟩, .string ⟨#[d]⟩] w fun e w' => e = .returned (.bool (decide (0 ≤ Lib.indexByte [58, 46, 61] d))) ∧ w' = w from Try.strings_Contains_one _ _ _)
          rw [one_of] at HC
          obtain ⟨z, hzz⟩ : ∃ z, z = (d == 58 || d == 46 || d == 61) := ⟨_, rfl⟩
          rw [← hzz] at HB HC
          clear e10 e91 c10 c10' c91 c91' hl hz t91 hzz
          go_enter Try.func97, Try.ntmps97
          go_wp2_with fail
          go_at_call 101
          refine HC.out.mono ?_
          rintro e w1 ⟨rfl, rfl⟩
          go_wp2_with fail
          go_ret
          exact ⟨by rw [HB.out]; rfl, rfl⟩
      · have t91 : ((c.toNat : Int) == 91) = false := by rw [show (91 : Int) = ((91 : Nat) : Int) from rfl, e91, beq_eq_false_iff_ne]; exact c91
        have t91' : ((c.toNat : Int) != 91) = true := by simp [bne, t91]
        have HB := Lib.hid (show byteOf (c :: r) = true by
          cases r with
          | nil => exact c10'
          | cons d q => show (c != 10 && (c != 91 || _)) = true; rw [c10', show (c != 91) = true by simp [c91]]; rfl)
        clear e10 e91 c10 c10' c91 hl hz t91
        go_enter Try.func97, Try.ntmps97
        go_wp2_with fail
        go_ret
        exact ⟨by rw [HB.out]; rfl, rfl⟩
def itmP : List UInt8 → (Nat → Nat) × Nat
  | [] => (noS, 0)
  | [c] => if byteOf [c] = true then (withS noS c.toNat c.toNat, 1) else (noS, 0)
  | [c, d] => if byteOf [c, d] = true then (withS noS c.toNat c.toNat, 1) else (noS, 0)
  | c :: d :: e :: q =>
    if byteOf (c :: d :: e :: q) = true then
      if d = 45 ∧ e ≠ 93 then if byteOf (e :: q) = true ∧ c.toNat ≤ e.toNat then (withS noS c.toNat e.toNat, 3) else (noS, 0)
      else (withS noS c.toNat c.toNat, 1)
    else (noS, 0)
def ItemC (M : World → Prop) (s : ByteArray) (r : (Nat → Nat) × Nat) : Prop := ∀ w : World, M w → Calls Try.prog 93 #[.string s] w fun e w' => e = .returned (.tuple #[setV r.1, .int .i64 (r.2 : Int)]) ∧ Below w.heap.size w w'
theorem itm_none {l : List UInt8} (h : byteOf l = false) : itmP l = (noS, 0) := by
  match l with
  | [] => rfl
  | [c] => simp [itmP, h]
  | [c, d] => simp [itmP, h]
  | c :: d :: e :: q => simp [itmP, h]
set_option maxRecDepth 100000 in
theorem item_none (s : ByteArray) (hbo : byteOf s.data.toList = false) (hp : pre ⟨#[91, 58]⟩ s = false) (w : World) : Calls Try.prog 93 #[.string s] w fun e w' => e = .returned (.tuple #[setV noS, .int .i64 0]) ∧ Below w.heap.size w w' := by
  have HCP := Lib.hid (cut_prefix s ⟨#[91, 58]⟩)
  rw [hp] at HCP
  simp only [Bool.false_eq_true, if_false] at HCP
  have HBO := Lib.hid (byte_of s)
  rw [hbo] at HBO
  clear hp hbo
  go_enter Try.func93, Try.ntmps93
  go_wp2_with fail
  go_at_call 95
  refine (HCP.out _).mono ?_
  rintro e0 w0 ⟨rfl, rfl⟩
  go_wp2_with fail
  go_at_call 97
  refine (HBO.out _).mono ?_
  rintro e0 w0 ⟨rfl, rfl⟩
  go_wp2_with fail
  refine bodyPost_ret (v := .tuple #[setV noS, .int .i64 0]) (by simp [results, Try.results93, go_sem, setV, noS]) rfl ⟨rfl, ?_⟩
  exact (Below.refl _ w).alloc (Nat.le_refl _) _
set_option maxRecDepth 100000 in
theorem item_short (s : ByteArray) {c : UInt8} {r : List UInt8} (hl : s.data.toList = c :: r) (hr : r.length < 2) (hbo : byteOf s.data.toList = true) (hp : pre ⟨#[91, 58]⟩ s = false) (w : World) : Calls Try.prog 93 #[.string s] w fun e w' => e = .returned (.tuple #[setV (withS noS c.toNat c.toNat), .int .i64 1]) ∧ Below w.heap.size w w' := by
  have HCP := Lib.hid (cut_prefix s ⟨#[91, 58]⟩)
  rw [hp] at HCP
  simp only [Bool.false_eq_true, if_false] at HCP
  have HBO := Lib.hid (byte_of s)
  rw [hbo] at HBO
  have h0 := at_of hl (i := 0) (c := c) rfl
  have hs : 0 < s.size := by rw [size_of hl]; simp
  have h3 : ((s.size : Int) < 3) := by rw [size_of hl]; simp only [List.length_cons]; omega
  clear hp hbo hl hr
  have HS := Lib.hid fun (W : World) => span_is c.toNat c.toNat (by exact UInt8.toNat_lt _) (by exact UInt8.toNat_lt _) W
  obtain ⟨A, hA⟩ : ∃ A, A = withS noS c.toNat c.toNat := ⟨_, rfl⟩
  rw [← hA] at HS ⊢
  clear hA
  go_enter Try.func93, Try.ntmps93
  go_wp2_with fail
  go_at_call 95
  refine (HCP.out _).mono ?_
  rintro e0 w0 ⟨rfl, rfl⟩
  go_wp2_with fail
  go_at_call 97
  refine (HBO.out _).mono ?_
  rintro e0 w0 ⟨rfl, rfl⟩
  go_wp2_with fail
  go_at_call 98
  refine (HS.out _).mono ?_
  unfold setV
  rintro e1 w1 ⟨rfl, hb1⟩
  obtain ⟨⟨k0, k1, k2, k3⟩, f0, f1, f2, f3⟩ := box4 hb1 (by simp)
  have HB := Lib.hid ((((Below.refl _ w).alloc (Nat.le_refl _) _)).trans (hb1.mono (by simp)))
  clear hb1
  go_wp2_with fail
  refine bodyPost_ret (v := .tuple #[setV A, .int .i64 1]) (by simp [results, Try.results93, go_sem, setV, k0, k1, k2, k3]) rfl ⟨rfl, ?_⟩
  exact below4 HB.out (Nat.le_refl _) _ _ _ _
set_option maxRecDepth 100000 in
theorem item_plain (s : ByteArray) {c d k : UInt8} {q : List UInt8} (hl : s.data.toList = c :: d :: k :: q) (hbo : byteOf s.data.toList = true) (hd : d ≠ 45) (hp : pre ⟨#[91, 58]⟩ s = false) (w : World) : Calls Try.prog 93 #[.string s] w fun e w' => e = .returned (.tuple #[setV (withS noS c.toNat c.toNat), .int .i64 1]) ∧ Below w.heap.size w w' := by
  have HCP := Lib.hid (cut_prefix s ⟨#[91, 58]⟩)
  rw [hp] at HCP
  simp only [Bool.false_eq_true, if_false] at HCP
  have HBO := Lib.hid (byte_of s)
  rw [hbo] at HBO
  have h0 := at_of hl (i := 0) (c := c) rfl
  have hs : 0 < s.size := by rw [size_of hl]; simp
  have h1 := at_of hl (i := 1) (c := d) rfl
  have h2 := at_of hl (i := 2) (c := k) rfl
  have h3 : (3 : Int) ≤ (s.size : Int) := by rw [size_of hl]; simp only [List.length_cons]; omega
  have h3n : 3 ≤ s.size := by omega
  have h3m : 2 < s.size := by omega
  have h3k : 1 < s.size := by omega
  have e45 : ((d.toNat : Int) != 45) = true := by rw [bne, show (45 : Int) = ((45 : Nat) : Int) from rfl, u8_test d 45 45 rfl]; simp [hd]
  clear hp hbo hl hd h3 h2 h3m
  have HS := Lib.hid fun (W : World) => span_is c.toNat c.toNat (by exact UInt8.toNat_lt _) (by exact UInt8.toNat_lt _) W
  obtain ⟨A, hA⟩ : ∃ A, A = withS noS c.toNat c.toNat := ⟨_, rfl⟩
  rw [← hA] at HS ⊢
  clear hA
  go_enter Try.func93, Try.ntmps93
  go_wp2_with fail
  go_at_call 95
  refine (HCP.out _).mono ?_
  rintro e0 w0 ⟨rfl, rfl⟩
  go_wp2_with fail
  go_at_call 97
  refine (HBO.out _).mono ?_
  rintro e0 w0 ⟨rfl, rfl⟩
  go_wp2_with fail
  go_at_call 98
  refine (HS.out _).mono ?_
  unfold setV
  rintro e1 w1 ⟨rfl, hb1⟩
  obtain ⟨⟨k0, k1, k2, k3⟩, f0, f1, f2, f3⟩ := box4 hb1 (by simp)
  have HB := Lib.hid ((((Below.refl _ w).alloc (Nat.le_refl _) _)).trans (hb1.mono (by simp)))
  clear hb1
  go_wp2_with fail
  refine bodyPost_ret (v := .tuple #[setV A, .int .i64 1]) (by simp [results, Try.results93, go_sem, setV, k0, k1, k2, k3]) rfl ⟨rfl, ?_⟩
  exact below4 HB.out (Nat.le_refl _) _ _ _ _
set_option maxRecDepth 100000 in
theorem item_dash (s : ByteArray) {c d k : UInt8} {q : List UInt8} (hl : s.data.toList = c :: d :: k :: q) (hbo : byteOf s.data.toList = true) (hd : d = 45) (he : k = 93) (hp : pre ⟨#[91, 58]⟩ s = false) (w : World) : Calls Try.prog 93 #[.string s] w fun e w' => e = .returned (.tuple #[setV (withS noS c.toNat c.toNat), .int .i64 1]) ∧ Below w.heap.size w w' := by
  have HCP := Lib.hid (cut_prefix s ⟨#[91, 58]⟩)
  rw [hp] at HCP
  simp only [Bool.false_eq_true, if_false] at HCP
  have HBO := Lib.hid (byte_of s)
  rw [hbo] at HBO
  have h0 := at_of hl (i := 0) (c := c) rfl
  have hs : 0 < s.size := by rw [size_of hl]; simp
  have h1 := at_of hl (i := 1) (c := d) rfl
  have h2 := at_of hl (i := 2) (c := k) rfl
  have h3 : (3 : Int) ≤ (s.size : Int) := by rw [size_of hl]; simp only [List.length_cons]; omega
  have h3n : 3 ≤ s.size := by omega
  have h3m : 2 < s.size := by omega
  have h3k : 1 < s.size := by omega
  have e45 : ((d.toNat : Int) != 45) = false := by rw [bne, show (45 : Int) = ((45 : Nat) : Int) from rfl, u8_test d 45 45 rfl]; simp [hd]
  have e93 : ((k.toNat : Int) == 93) = true := by rw [show (93 : Int) = ((93 : Nat) : Int) from rfl, u8_test k 93 93 rfl]; simp [he]
  clear hp hbo hl hd he h3
  have HS := Lib.hid fun (W : World) => span_is c.toNat c.toNat (by exact UInt8.toNat_lt _) (by exact UInt8.toNat_lt _) W
  obtain ⟨A, hA⟩ : ∃ A, A = withS noS c.toNat c.toNat := ⟨_, rfl⟩
  rw [← hA] at HS ⊢
  clear hA
  go_enter Try.func93, Try.ntmps93
  go_wp2_with fail
  go_at_call 95
  refine (HCP.out _).mono ?_
  rintro e0 w0 ⟨rfl, rfl⟩
  go_wp2_with fail
  go_at_call 97
  refine (HBO.out _).mono ?_
  rintro e0 w0 ⟨rfl, rfl⟩
  go_wp2_with fail
  go_at_call 98
  refine (HS.out _).mono ?_
  unfold setV
  rintro e1 w1 ⟨rfl, hb1⟩
  obtain ⟨⟨k0, k1, k2, k3⟩, f0, f1, f2, f3⟩ := box4 hb1 (by simp)
  have HB := Lib.hid ((((Below.refl _ w).alloc (Nat.le_refl _) _)).trans (hb1.mono (by simp)))
  clear hb1
  go_wp2_with fail
  refine bodyPost_ret (v := .tuple #[setV A, .int .i64 1]) (by simp [results, Try.results93, go_sem, setV, k0, k1, k2, k3]) rfl ⟨rfl, ?_⟩
  exact below4 HB.out (Nat.le_refl _) _ _ _ _
set_option maxRecDepth 100000 in
theorem item_bad (s : ByteArray) {c d k : UInt8} {q : List UInt8} (hl : s.data.toList = c :: d :: k :: q) (hbo : byteOf s.data.toList = true) (hd : d = 45) (he : k ≠ 93) (hb2 : byteOf (k :: q) = false) (hp : pre ⟨#[91, 58]⟩ s = false) (w : World) : Calls Try.prog 93 #[.string s] w fun e w' => e = .returned (.tuple #[setV noS, .int .i64 0]) ∧ Below w.heap.size w w' := by
  have HCP := Lib.hid (cut_prefix s ⟨#[91, 58]⟩)
  rw [hp] at HCP
  simp only [Bool.false_eq_true, if_false] at HCP
  have HBO := Lib.hid (byte_of s)
  rw [hbo] at HBO
  have h0 := at_of hl (i := 0) (c := c) rfl
  have hs : 0 < s.size := by rw [size_of hl]; simp
  have h1 := at_of hl (i := 1) (c := d) rfl
  have h2 := at_of hl (i := 2) (c := k) rfl
  have h3 : (3 : Int) ≤ (s.size : Int) := by rw [size_of hl]; simp only [List.length_cons]; omega
  have h3n : 3 ≤ s.size := by omega
  have h3m : 2 < s.size := by omega
  have h3k : 1 < s.size := by omega
  have e45 : ((d.toNat : Int) != 45) = false := by rw [bne, show (45 : Int) = ((45 : Nat) : Int) from rfl, u8_test d 45 45 rfl]; simp [hd]
  have e93 : ((k.toNat : Int) == 93) = false := by rw [show (93 : Int) = ((93 : Nat) : Int) from rfl, u8_test k 93 93 rfl]; simp [he]
  have HB2 := Lib.hid (byte_of (s.extract 2 s.size))
  rw [show (s.extract 2 s.size).data.toList = k :: q by rw [drop_of, hl]; rfl, hb2] at HB2
  clear hp hbo hl hd he hb2 h3
  go_enter Try.func93, Try.ntmps93
  go_wp2_with fail
  go_at_call 95
  refine (HCP.out _).mono ?_
  rintro e0 w0 ⟨rfl, rfl⟩
  go_wp2_with fail
  go_at_call 97
  refine (HBO.out _).mono ?_
  rintro e0 w0 ⟨rfl, rfl⟩
  go_wp2_with fail
  go_at_call 97
  refine (HB2.out _).mono ?_
  rintro e0 w0 ⟨rfl, rfl⟩
  go_wp2_with fail
  refine bodyPost_ret (v := .tuple #[setV noS, .int .i64 0]) (by simp [results, Try.results93, go_sem, setV, noS]) rfl ⟨rfl, ?_⟩
  exact (Below.refl _ w).alloc (Nat.le_refl _) _
set_option maxRecDepth 100000 in
theorem item_fall (s : ByteArray) {c d k : UInt8} {q : List UInt8} (hl : s.data.toList = c :: d :: k :: q) (hbo : byteOf s.data.toList = true) (hd : d = 45) (he : k ≠ 93) (hb2 : byteOf (k :: q) = true) (hf : k.toNat < c.toNat) (hp : pre ⟨#[91, 58]⟩ s = false) (w : World) : Calls Try.prog 93 #[.string s] w fun e w' => e = .returned (.tuple #[setV noS, .int .i64 0]) ∧ Below w.heap.size w w' := by
  have HCP := Lib.hid (cut_prefix s ⟨#[91, 58]⟩)
  rw [hp] at HCP
  simp only [Bool.false_eq_true, if_false] at HCP
  have HBO := Lib.hid (byte_of s)
  rw [hbo] at HBO
  have h0 := at_of hl (i := 0) (c := c) rfl
  have hs : 0 < s.size := by rw [size_of hl]; simp
  have h1 := at_of hl (i := 1) (c := d) rfl
  have h2 := at_of hl (i := 2) (c := k) rfl
  have h3 : (3 : Int) ≤ (s.size : Int) := by rw [size_of hl]; simp only [List.length_cons]; omega
  have h3n : 3 ≤ s.size := by omega
  have h3m : 2 < s.size := by omega
  have h3k : 1 < s.size := by omega
  have e45 : ((d.toNat : Int) != 45) = false := by rw [bne, show (45 : Int) = ((45 : Nat) : Int) from rfl, u8_test d 45 45 rfl]; simp [hd]
  have e93 : ((k.toNat : Int) == 93) = false := by rw [show (93 : Int) = ((93 : Nat) : Int) from rfl, u8_test k 93 93 rfl]; simp [he]
  have HB2 := Lib.hid (byte_of (s.extract 2 s.size))
  rw [show (s.extract 2 s.size).data.toList = k :: q by rw [drop_of, hl]; rfl, hb2] at HB2
  have hfi : (k.toNat : Int) < (c.toNat : Int) := by omega
  clear hp hbo hl hd he hb2 h3
  go_enter Try.func93, Try.ntmps93
  go_wp2_with fail
  go_at_call 95
  refine (HCP.out _).mono ?_
  rintro e0 w0 ⟨rfl, rfl⟩
  go_wp2_with fail
  go_at_call 97
  refine (HBO.out _).mono ?_
  rintro e0 w0 ⟨rfl, rfl⟩
  go_wp2_with fail
  go_at_call 97
  refine (HB2.out _).mono ?_
  rintro e0 w0 ⟨rfl, rfl⟩
  go_wp2_with fail
  refine bodyPost_ret (v := .tuple #[setV noS, .int .i64 0]) (by simp [results, Try.results93, go_sem, setV, noS]) rfl ⟨rfl, ?_⟩
  exact (Below.refl _ w).alloc (Nat.le_refl _) _
set_option maxRecDepth 100000 in
theorem item_range (s : ByteArray) {c d k : UInt8} {q : List UInt8} (hl : s.data.toList = c :: d :: k :: q) (hbo : byteOf s.data.toList = true) (hd : d = 45) (he : k ≠ 93) (hb2 : byteOf (k :: q) = true) (hf : c.toNat ≤ k.toNat) (hp : pre ⟨#[91, 58]⟩ s = false) (w : World) : Calls Try.prog 93 #[.string s] w fun e w' => e = .returned (.tuple #[setV (withS noS c.toNat k.toNat), .int .i64 3]) ∧ Below w.heap.size w w' := by
  have HCP := Lib.hid (cut_prefix s ⟨#[91, 58]⟩)
  rw [hp] at HCP
  simp only [Bool.false_eq_true, if_false] at HCP
  have HBO := Lib.hid (byte_of s)
  rw [hbo] at HBO
  have h0 := at_of hl (i := 0) (c := c) rfl
  have hs : 0 < s.size := by rw [size_of hl]; simp
  have h1 := at_of hl (i := 1) (c := d) rfl
  have h2 := at_of hl (i := 2) (c := k) rfl
  have h3 : (3 : Int) ≤ (s.size : Int) := by rw [size_of hl]; simp only [List.length_cons]; omega
  have h3n : 3 ≤ s.size := by omega
  have h3m : 2 < s.size := by omega
  have h3k : 1 < s.size := by omega
  have e45 : ((d.toNat : Int) != 45) = false := by rw [bne, show (45 : Int) = ((45 : Nat) : Int) from rfl, u8_test d 45 45 rfl]; simp [hd]
  have e93 : ((k.toNat : Int) == 93) = false := by rw [show (93 : Int) = ((93 : Nat) : Int) from rfl, u8_test k 93 93 rfl]; simp [he]
  have HB2 := Lib.hid (byte_of (s.extract 2 s.size))
  rw [show (s.extract 2 s.size).data.toList = k :: q by rw [drop_of, hl]; rfl, hb2] at HB2
  have hfi : ¬ (k.toNat : Int) < (c.toNat : Int) := by omega
  have hfj : (c.toNat : Int) ≤ (k.toNat : Int) := by omega
  clear hp hbo hl hd he hb2 h3 hf
  have HS := Lib.hid fun (W : World) => span_is c.toNat k.toNat (by exact UInt8.toNat_lt _) (by exact UInt8.toNat_lt _) W
  obtain ⟨A, hA⟩ : ∃ A, A = withS noS c.toNat k.toNat := ⟨_, rfl⟩
  rw [← hA] at HS ⊢
  clear hA
  go_enter Try.func93, Try.ntmps93
  go_wp2_with fail
  go_at_call 95
  refine (HCP.out _).mono ?_
  rintro e0 w0 ⟨rfl, rfl⟩
  go_wp2_with fail
  go_at_call 97
  refine (HBO.out _).mono ?_
  rintro e0 w0 ⟨rfl, rfl⟩
  go_wp2_with fail
  go_at_call 97
  refine (HB2.out _).mono ?_
  rintro e0 w0 ⟨rfl, rfl⟩
  go_wp2_with fail
  go_at_call 98
  refine (HS.out _).mono ?_
  unfold setV
  rintro e1 w1 ⟨rfl, hb1⟩
  obtain ⟨⟨k0, k1, k2, k3⟩, f0, f1, f2, f3⟩ := box4 hb1 (by simp)
  have HB := Lib.hid ((((Below.refl _ w).alloc (Nat.le_refl _) _)).trans (hb1.mono (by simp)))
  clear hb1
  go_wp2_with fail
  refine bodyPost_ret (v := .tuple #[setV A, .int .i64 3]) (by simp [results, Try.results93, go_sem, setV, k0, k1, k2, k3]) rfl ⟨rfl, ?_⟩
  exact below4 HB.out (Nat.le_refl _) _ _ _ _
theorem item_is (M : World → Prop) (s : ByteArray) (hp : pre ⟨#[91, 58]⟩ s = false) : ItemC M s (itmP s.data.toList) := by
  intro w _
  by_cases hbo : byteOf s.data.toList = true
  · match hl : s.data.toList with
    | [] => rw [hl] at hbo; cases hbo
    | [c] =>
      have h := item_short s hl (by simp) hbo hp w
      rw [hl] at hbo
      simp only [itmP, hbo, if_true]
      exact h
    | [c, d] =>
      have h := item_short s hl (by simp) hbo hp w
      rw [hl] at hbo
      simp only [itmP, hbo, if_true]
      exact h
    | c :: d :: e :: q =>
      have hbo' := hbo
      rw [hl] at hbo'
      by_cases hd : d = 45
      · by_cases he : e = 93
        · simp only [itmP, hbo', if_true]
          rw [if_neg fun h => h.2 he]
          exact item_dash s hl hbo hd he hp w
        · by_cases hb2 : byteOf (e :: q) = true
          · by_cases hf : c.toNat ≤ e.toNat
            · simp only [itmP, hbo', if_true]
              rw [if_pos ⟨hd, he⟩, if_pos ⟨hb2, hf⟩]
              exact item_range s hl hbo hd he hb2 hf hp w
            · simp only [itmP, hbo', if_true]
              rw [if_pos ⟨hd, he⟩, if_neg fun h => hf h.2]
              exact item_fall s hl hbo hd he hb2 (by omega) hp w
          · simp only [itmP, hbo', if_true]
            rw [if_pos ⟨hd, he⟩, if_neg fun h => hb2 h.1]
            exact item_bad s hl hbo hd he (by simpa using hb2) hp w
      · simp only [itmP, hbo', if_true]
        rw [if_neg fun h => hd h.1]
        exact item_plain s hl hbo hd hp w
  · rw [itm_none (by simpa using hbo)]
    exact item_none s (by simpa using hbo) hp w
open Go.RowKit
theorem wp_scope_again {P : Program} {a : Act} {w : World} {Q : Exit → Act → World → Prop} {c after : Code} (l : Nat) (J : Act → World → Prop) (μ : Act → World → Nat) (hf : findLabel c l = some (.seq .skip after))
    (first : (∀ a w, J a w → after.wp P (Exit.jump l J Q) a w) → c.wp P (Exit.jump l J Q) a w)
    (pass : ∀ a w, J a w → after.wp P (Exit.jump l (fun a' w' => J a' w' ∧ μ a' w' < μ a w) Q) a w) : (Code.scope c).wp P Q a w :=
  wp_scope_jumps l J μ hf (first fun a w h => Code.wp_mono (fun e a' w' he => by
    cases e with
    | goto k => exact ⟨he.1, he.2.1⟩
    | _ => exact he) (pass a w h)) (fun a w h => wp_seq (wp_skip (pass a w h)))
inductive Brk (M : World → Prop) (s : ByteArray) : Nat → (Nat → Nat) → Option ((Nat → Nat) × Nat) → Prop
  | bad {n : Nat} {S A : Nat → Nat} : OkS A → n ≤ s.size → ItemC M (s.extract n s.size) (A, 0) → Brk M s n S none
  | last {n k : Nat} {S A : Nat → Nat} : OkS A → ItemC M (s.extract n s.size) (A, k) → 0 < k → n + k ≤ s.size → pre ⟨#[93]⟩ (s.extract (n + k) s.size) = true → Brk M s n S (some (bothS S A, n + k))
  | more {n k : Nat} {S A : Nat → Nat} {r : Option ((Nat → Nat) × Nat)} : OkS A → ItemC M (s.extract n s.size) (A, k) → 0 < k → n + k ≤ s.size → pre ⟨#[93]⟩ (s.extract (n + k) s.size) = false → Brk M s (n + k) (bothS S A) r → Brk M s n S r
def brkV (nt : Bool) : Option ((Nat → Nat) × Nat) → Value
  | none => .tuple #[setV noS, .int .i64 0, .int .i64 81]
  | some (S, n) => .tuple #[setV (if nt = true then notS (withS S 10 10) else S), .int .i64 ((n + 1 : Nat) : Int), .int .i64 0]
def BrkW (w wr : World) (S : Nat → Nat) : Prop :=
  ((wr.cell? ⟨w.heap.size, 0, none⟩ = some (.int .u64 0) ∧ wr.cell? ⟨w.heap.size, 1, none⟩ = some (.int .u64 0) ∧ wr.cell? ⟨w.heap.size, 2, none⟩ = some (.int .u64 0) ∧ wr.cell? ⟨w.heap.size, 3, none⟩ = some (.int .u64 0)) ∧
   (wr.frozen? ⟨w.heap.size, 0, none⟩ = false ∧ wr.frozen? ⟨w.heap.size, 1, none⟩ = false ∧ wr.frozen? ⟨w.heap.size, 2, none⟩ = false ∧ wr.frozen? ⟨w.heap.size, 3, none⟩ = false)) ∧
  ((wr.cell? ⟨w.heap.size + 1, 0, none⟩ = some (.int .u64 (S 0)) ∧ wr.cell? ⟨w.heap.size + 1, 1, none⟩ = some (.int .u64 (S 1)) ∧ wr.cell? ⟨w.heap.size + 1, 2, none⟩ = some (.int .u64 (S 2)) ∧ wr.cell? ⟨w.heap.size + 1, 3, none⟩ = some (.int .u64 (S 3))) ∧
   (wr.frozen? ⟨w.heap.size + 1, 0, none⟩ = false ∧ wr.frozen? ⟨w.heap.size + 1, 1, none⟩ = false ∧ wr.frozen? ⟨w.heap.size + 1, 2, none⟩ = false ∧ wr.frozen? ⟨w.heap.size + 1, 3, none⟩ = false)) ∧
  Below w.heap.size w wr ∧ w.heap.size + 2 ≤ wr.heap.size
theorem BrkW.below {w wr w1 : World} {S : Nat → Nat} (h : BrkW w wr S) (hb : Below wr.heap.size wr w1) : BrkW w w1 S := by
  obtain ⟨⟨⟨a0, a1, a2, a3⟩, b0, b1, b2, b3⟩, ⟨⟨c0, c1, c2, c3⟩, d0, d1, d2, d3⟩, hB, hs⟩ := h
  have l0 : w.heap.size < wr.heap.size := by omega
  have l1 : w.heap.size + 1 < wr.heap.size := by omega
  refine ⟨⟨⟨?_, ?_, ?_, ?_⟩, ?_, ?_, ?_, ?_⟩, ⟨⟨?_, ?_, ?_, ?_⟩, ?_, ?_, ?_, ?_⟩, hB.trans (hb.mono hB.size), Nat.le_trans hs hb.size⟩
  all_goals first | (rw [hb.cell (by assumption)]; assumption) | (rw [hb.frozen (by assumption)]; assumption)
theorem BrkW.store {w wr : World} {S : Nat → Nat} (h : BrkW w wr S) (A : Nat → Nat) :
    BrkW w ((((wr.setCell ⟨w.heap.size + 1, 0, none⟩ (.int .u64 (A 0))).setCell ⟨w.heap.size + 1, 1, none⟩ (.int .u64 (A 1))).setCell ⟨w.heap.size + 1, 2, none⟩ (.int .u64 (A 2))).setCell ⟨w.heap.size + 1, 3, none⟩ (.int .u64 (A 3))) A := by
  obtain ⟨⟨⟨a0, a1, a2, a3⟩, b0, b1, b2, b3⟩, ⟨⟨c0, c1, c2, c3⟩, d0, d1, d2, d3⟩, hB, hs⟩ := h
  refine ⟨⟨⟨?_, ?_, ?_, ?_⟩, ?_, ?_, ?_, ?_⟩, ⟨⟨?_, ?_, ?_, ?_⟩, ?_, ?_, ?_, ?_⟩, below4 hB (Nat.le_succ _) _ _ _ _, by simpa [World.setCell] using hs⟩
  all_goals simp [go_sem, *]
theorem brk_start (w : World) : BrkW w ((w.alloc (.cells #[.int .u64 0, .int .u64 0, .int .u64 0, .int .u64 0] 34)).alloc (.cells #[.int .u64 0, .int .u64 0, .int .u64 0, .int .u64 0] 34)) noS := by
  refine ⟨⟨⟨?_, ?_, ?_, ?_⟩, ?_, ?_, ?_, ?_⟩, ⟨⟨?_, ?_, ?_, ?_⟩, ?_, ?_, ?_, ?_⟩, ((Below.refl _ w).alloc (Nat.le_refl _) _).alloc (by simp) _, by simp⟩
  all_goals simp [go_sem, noS]
theorem pre_size {p s : ByteArray} (h : pre p s = true) : p.size ≤ s.size := by
  have := List.IsPrefix.length_le (List.isPrefixOf_iff_prefix.1 h)
  simpa using this
set_option maxRecDepth 100000 in
set_option maxHeartbeats 2000000 in
theorem bracket_is (M : World → Prop) (hM : ∀ (w w' : World), M w → Below w.heap.size w w' → M w') (s : ByteArray) (nt : Bool) (hnt : pre ⟨#[94]⟩ s = nt) (r : Option ((Nat → Nat) × Nat)) (hr : Brk M s (if nt = true then 1 else 0) noS r) (hs : s.size ≤ 281474976710656) (w : World) (hMw : M w) :
    Calls Try.prog 90 #[.string s] w fun e w' => e = .returned (brkV nt r) ∧ Below w.heap.size w w' := by
  have HN := Lib.hid (has_prefix s ⟨#[94]⟩)
  rw [hnt] at HN
  have HNT := Lib.hid hnt
  have HR := Lib.hid hr
  have HS := Lib.hid hs
  have HMB := Lib.hid hM
  clear hnt hr hs hM
  go_enter Try.func90, Try.ntmps90
  go_wp2_with fail
  refine wp_scope_again 0 (fun a' w' => ∃ (n : Nat) (S : Nat → Nat) (u8 u9 u10 u11 u12 u13 u14 u15 u16 u17 u18 u19 u20 u21 u22 u23 u24 u25 u26 u27 u28 u29 u30 u31 u32 u33 u34 u35 u36 u37 u38 u39 u40 u41 u42 : Value), Brk M s n S r ∧ OkS S ∧ BrkW w w' S ∧ n ≤ s.size ∧ a' = { tmps := #[.string s, undef, .pointer (some ⟨w.heap.size, 0, none⟩), .int .i64 0, .int .i64 0, .pointer (some ⟨w.heap.size + 1, 0, none⟩), .int .i64 (n : Int), .bool nt, u8, u9, u10, u11, u12, u13, u14, u15, u16, u17, u18, u19, u20, u21, u22, u23, u24, u25, u26, u27, u28, u29, u30, u31, u32, u33, u34, u35, u36, u37, u38, u39, u40, u41, u42], defers := [] }) (fun a' _ => s.size - (intOf (a'.tmps.getD 6 undef)).toNat) rfl ?_ ?_
  · intro hp
    have HP := Lib.hid hp
    clear hp
    go_wp2_with fail
    go_at_call 44
    refine (HN.out _).mono ?_
    rintro e w1 ⟨rfl, rfl⟩
    cases nt with
    | false =>
      go_wp2_with fail
      go_step3
      simp only [Exit.then]
      rename_i hK
      exact hK _ _ (HP.out _ _ ⟨0, noS, _, _, _, _, _, _, _, _, _, _, _, _, _, _, _, _, _, _, _, _, _, _, _, _, _, _, _, _, _, _, _, _, _, _, _, HR.out, OkS.no, brk_start w, Nat.zero_le _, rfl⟩)
    | true =>
      go_wp2_with fail
      go_step3
      simp only [Exit.then]
      rename_i hK
      exact hK _ _ (HP.out _ _ ⟨1, noS, _, _, _, _, _, _, _, _, _, _, _, _, _, _, _, _, _, _, _, _, _, _, _, _, _, _, _, _, _, _, _, _, _, _, _, HR.out, OkS.no, brk_start w, pre_size HNT.out, rfl⟩)
  · rintro a' wr ⟨n, S, u8, u9, u10, u11, u12, u13, u14, u15, u16, u17, u18, u19, u20, u21, u22, u23, u24, u25, u26, u27, u28, u29, u30, u31, u32, u33, u34, u35, u36, u37, u38, u39, u40, u41, u42, hbrk, hS, hW, hn, rfl⟩
    have hni : (n : Int) ≤ (s.size : Int) := by omega
    have hW' := hW
    obtain ⟨⟨⟨a0, a1, a2, a3⟩, b0, b1, b2, b3⟩, ⟨⟨c0, c1, c2, c3⟩, d0, d1, d2, d3⟩, hB, hsz⟩ := hW'
    cases hbrk with
    | @bad _ _ A hA hn' hI =>
      unfold ItemC setV at hI
      dsimp only at hI
      have HI := Lib.hid hI
      clear hI
      go_wp2_with fail
      go_at_call 93
      refine (HI.out _ (HMB.out _ _ hMw hB)).mono ?_
      rintro e w1 ⟨rfl, hb1⟩
      have hW1 := (hW.below hb1).below ((Below.refl _ w1).alloc (Nat.le_refl _) (.cells #[.int .u64 (A 0), .int .u64 (A 1), .int .u64 (A 2), .int .u64 (A 3)] 34))
      obtain ⟨⟨⟨x0, x1, x2, x3⟩, y0, y1, y2, y3⟩, ⟨⟨z0, z1, z2, z3⟩, v0, v1, v2, v3⟩, hB1, hsz1⟩ := hW.below hb1
      have l0 : w.heap.size < w1.heap.size := by omega
      have l1 : w.heap.size + 1 < w1.heap.size := by omega
      have HW1 := Lib.hid hW1
      clear hW1 hb1 a0 a1 a2 a3 b0 b1 b2 b3 c0 c1 c2 c3 d0 d1 d2 d3
      go_wp2_with fail
      simp only [Exit.jump]
      refine bodyPost_ret (v := brkV nt none) (by simp [results, Try.results90, go_sem, brkV, setV, noS, x0, x1, x2, x3, l0]) rfl ⟨rfl, ?_⟩
      exact (below4 hB1 (Nat.le_refl _) _ _ _ _).alloc (by simpa [World.setCell] using Nat.le_of_lt l0) _
    | @last _ k _ A hA hI hk hnk hp =>
      have hni2 : ((n : Int) + (k : Int)) ≤ (s.size : Int) := by omega
      have hkz : ((k : Int) == 0) = false := by rw [beq_eq_false_iff_ne]; omega
      have hwr : wrap64 ((n : Int) + (k : Int)) = (n : Int) + (k : Int) := IntWalk.wrap64_in _ (by have := HS.out; omega)
      unfold ItemC setV at hI
      dsimp only at hI
      have HI := Lib.hid hI
      clear hI
      go_wp2_with fail
      go_at_call 93
      refine (HI.out _ (HMB.out _ _ hMw hB)).mono ?_
      rintro e w1 ⟨rfl, hb1⟩
      have hW1 := (hW.below hb1).below ((Below.refl _ w1).alloc (Nat.le_refl _) (.cells #[.int .u64 (A 0), .int .u64 (A 1), .int .u64 (A 2), .int .u64 (A 3)] 34))
      obtain ⟨⟨⟨x0, x1, x2, x3⟩, y0, y1, y2, y3⟩, ⟨⟨z0, z1, z2, z3⟩, v0, v1, v2, v3⟩, hB1, hsz1⟩ := hW.below hb1
      have l0 : w.heap.size < w1.heap.size := by omega
      have l1 : w.heap.size + 1 < w1.heap.size := by omega
      have HW1 := Lib.hid hW1
      clear hW1 hb1 a0 a1 a2 a3 b0 b1 b2 b3 c0 c1 c2 c3 d0 d1 d2 d3
      have HBO := Lib.hid (both_is S A hS hA)
      unfold setV at HBO
      have HPR := Lib.hid (has_prefix (s.extract (n + k) s.size) ⟨#[93]⟩)
      rw [hp] at HPR
      clear hp
      go_wp2_with fail
      go_at_call 94
      refine (HBO.out _).mono ?_
      rintro e w2 ⟨rfl, hb2⟩
      have hW2 := HW1.out.below hb2
      have HW3 := Lib.hid (hW2.store (bothS S A))
      obtain ⟨⟨⟨p0, p1, p2, p3⟩, q0, q1, q2, q3⟩, ⟨⟨r0, r1, r2, r3⟩, t0, t1, t2, t3⟩, hB2, hsz2⟩ := hW2
      clear hb2 x0 x1 x2 x3 y0 y1 y2 y3 z0 z1 z2 z3 v0 v1 v2 v3 hB hsz
      go_wp2_with fail
      go_at_call 44
      obtain ⟨w3, hw3⟩ : ∃ w3, w3 = ((((w2.setCell ⟨w.heap.size + 1, 0, none⟩ (.int .u64 ((bothS S A) 0))).setCell ⟨w.heap.size + 1, 1, none⟩ (.int .u64 ((bothS S A) 1))).setCell ⟨w.heap.size + 1, 2, none⟩ (.int .u64 ((bothS S A) 2))).setCell ⟨w.heap.size + 1, 3, none⟩ (.int .u64 ((bothS S A) 3))) := ⟨_, rfl⟩
      rw [← hw3] at HW3 ⊢
      clear hw3 p0 p1 p2 p3 q0 q1 q2 q3 r0 r1 r2 r3 t0 t1 t2 t3
      rw [hwr]
      refine (HPR.out _).mono ?_
      rintro e w4 ⟨rfl, rfl⟩
      have HBR := Lib.hid hB2
      clear hB2
      obtain ⟨⟨⟨x0, x1, x2, x3⟩, y0, y1, y2, y3⟩, ⟨⟨z0, z1, z2, z3⟩, v0, v1, v2, v3⟩, hB3, hsz3⟩ := HW3.out
      obtain ⟨T, hT⟩ : ∃ T, T = bothS S A := ⟨_, rfl⟩
      rw [← hT] at z0 z1 z2 z3 ⊢
      have HOT := Lib.hid (show OkS T by rw [hT]; exact hS.both hA)
      have hw1 : wrap64 ((n : Int) + (k : Int) + 1) = (n : Int) + (k : Int) + 1 := IntWalk.wrap64_in _ (by have := HS.out; omega)
      rw [← hT] at HW3
      have HT := Lib.hid hT
      clear hT
      cases nt with
      | false =>
        go_wp2_with fail
        simp only [Exit.jump]
        refine bodyPost_ret (v := brkV false (some (T, n + k))) (by simp [results, Try.results90, go_sem, brkV, setV, x0, x1, x2, x3]) rfl ⟨by rw [HT.out], ?_⟩
        exact below4 hB3 (Nat.le_refl _) _ _ _ _
      | true =>
        have HWI := Lib.hid fun (W : World) => with_is T 10 10 HOT.out (by decide) (by decide) W
        have HNO := Lib.hid fun (W : World) => not_is (withS T 10 10) (HOT.out.withS _ _) W
        unfold setV at HWI HNO
        go_wp2_with fail
        go_at_call 92
        refine (HWI.out _).mono ?_
        rintro e w5 ⟨rfl, hb5⟩
        go_wp2_with fail
        go_at_call 89
        refine (HNO.out _).mono ?_
        rintro e w6 ⟨rfl, hb6⟩
        have hW6 := (HW3.out.below hb5).below hb6
        obtain ⟨N, hN⟩ : ∃ N, N = notS (withS T 10 10) := ⟨_, rfl⟩
        rw [← hN]
        have HN2 := Lib.hid hN
        have HW7 := Lib.hid (hW6.store N)
        clear hN hb5 hb6 x0 x1 x2 x3 y0 y1 y2 y3 z0 z1 z2 z3 v0 v1 v2 v3 hB3 hsz3
        obtain ⟨⟨⟨x0, x1, x2, x3⟩, y0, y1, y2, y3⟩, ⟨⟨z0, z1, z2, z3⟩, v0, v1, v2, v3⟩, hB3, hsz3⟩ := hW6
        go_wp2_with fail
        simp only [Exit.jump]
        refine bodyPost_ret (v := brkV true (some (T, n + k))) (by simp [results, Try.results90, go_sem, brkV, setV, x0, x1, x2, x3, ← HN2.out]) rfl ⟨by rw [HT.out], ?_⟩
        exact below4 (below4 hB3 (Nat.le_succ _) _ _ _ _) (Nat.le_refl _) _ _ _ _
    | @more _ k _ A _ hA hI hk hnk hp hr =>
      have hni2 : ((n : Int) + (k : Int)) ≤ (s.size : Int) := by omega
      have hkz : ((k : Int) == 0) = false := by rw [beq_eq_false_iff_ne]; omega
      have hwr : wrap64 ((n : Int) + (k : Int)) = (n : Int) + (k : Int) := IntWalk.wrap64_in _ (by have := HS.out; omega)
      unfold ItemC setV at hI
      dsimp only at hI
      have HI := Lib.hid hI
      clear hI
      go_wp2_with fail
      go_at_call 93
      refine (HI.out _ (HMB.out _ _ hMw hB)).mono ?_
      rintro e w1 ⟨rfl, hb1⟩
      have hW1 := (hW.below hb1).below ((Below.refl _ w1).alloc (Nat.le_refl _) (.cells #[.int .u64 (A 0), .int .u64 (A 1), .int .u64 (A 2), .int .u64 (A 3)] 34))
      obtain ⟨⟨⟨x0, x1, x2, x3⟩, y0, y1, y2, y3⟩, ⟨⟨z0, z1, z2, z3⟩, v0, v1, v2, v3⟩, hB1, hsz1⟩ := hW.below hb1
      have l0 : w.heap.size < w1.heap.size := by omega
      have l1 : w.heap.size + 1 < w1.heap.size := by omega
      have HW1 := Lib.hid hW1
      clear hW1 hb1 a0 a1 a2 a3 b0 b1 b2 b3 c0 c1 c2 c3 d0 d1 d2 d3
      have HBO := Lib.hid (both_is S A hS hA)
      unfold setV at HBO
      have HPR := Lib.hid (has_prefix (s.extract (n + k) s.size) ⟨#[93]⟩)
      rw [hp] at HPR
      clear hp
      go_wp2_with fail
      go_at_call 94
      refine (HBO.out _).mono ?_
      rintro e w2 ⟨rfl, hb2⟩
      have hW2 := HW1.out.below hb2
      have HW3 := Lib.hid (hW2.store (bothS S A))
      obtain ⟨⟨⟨p0, p1, p2, p3⟩, q0, q1, q2, q3⟩, ⟨⟨r0, r1, r2, r3⟩, t0, t1, t2, t3⟩, hB2, hsz2⟩ := hW2
      clear hb2 x0 x1 x2 x3 y0 y1 y2 y3 z0 z1 z2 z3 v0 v1 v2 v3 hB hsz
      go_wp2_with fail
      go_at_call 44
      obtain ⟨w3, hw3⟩ : ∃ w3, w3 = ((((w2.setCell ⟨w.heap.size + 1, 0, none⟩ (.int .u64 ((bothS S A) 0))).setCell ⟨w.heap.size + 1, 1, none⟩ (.int .u64 ((bothS S A) 1))).setCell ⟨w.heap.size + 1, 2, none⟩ (.int .u64 ((bothS S A) 2))).setCell ⟨w.heap.size + 1, 3, none⟩ (.int .u64 ((bothS S A) 3))) := ⟨_, rfl⟩
      rw [← hw3] at HW3 ⊢
      clear hw3 p0 p1 p2 p3 q0 q1 q2 q3 r0 r1 r2 r3 t0 t1 t2 t3
      rw [hwr]
      refine (HPR.out _).mono ?_
      rintro e w4 ⟨rfl, rfl⟩
      have HBR := Lib.hid hB2
      clear hB2
      go_wp2_with fail
      go_step3
      exact ⟨rfl, ⟨n + k, bothS S A, _, _, _, _, _, _, _, _, _, _, _, _, _, _, _, _, _, _, _, _, _, _, _, _, _, _, _, _, _, _, _, _, _, _, _, hr, hS.both hA, HW3.out, hnk, rfl⟩, by simp [intOf]; omega⟩
open Go.RowKit
def TrueC (w : World) (e : Ending) (w' : World) : Prop := e = .returned (.bool true) ∧ Below w.heap.size w w'
def Box (w : World) (b : Nat) (S : Nat → Nat) : Prop := w.cell? ⟨b, 0, none⟩ = some (.int .u64 (S 0)) ∧ w.cell? ⟨b, 1, none⟩ = some (.int .u64 (S 1)) ∧ w.cell? ⟨b, 2, none⟩ = some (.int .u64 (S 2)) ∧ w.cell? ⟨b, 3, none⟩ = some (.int .u64 (S 3))
theorem Box.below {w w' : World} {b B : Nat} {S : Nat → Nat} (h : Box w b S) (hw : Below B w w') (hb : b < B) : Box w' b S := by
  obtain ⟨h0, h1, h2, h3⟩ := h
  exact ⟨by rw [hw.cell hb]; exact h0, by rw [hw.cell hb]; exact h1, by rw [hw.cell hb]; exact h2, by rw [hw.cell hb]; exact h3⟩
theorem Box.new (w : World) (S : Nat → Nat) (t : TypeId) : Box (w.alloc (.cells #[.int .u64 (S 0), .int .u64 (S 1), .int .u64 (S 2), .int .u64 (S 3)] t)) w.heap.size S := by
  refine ⟨?_, ?_, ?_, ?_⟩ <;> simp [go_sem]
open Go.RowKit
def BoxF (w : World) (b : Nat) (S : Nat → Nat) : Prop :=
  (w.cell? ⟨b, 0, none⟩ = some (.int .u64 (S 0)) ∧ w.cell? ⟨b, 1, none⟩ = some (.int .u64 (S 1)) ∧ w.cell? ⟨b, 2, none⟩ = some (.int .u64 (S 2)) ∧ w.cell? ⟨b, 3, none⟩ = some (.int .u64 (S 3))) ∧
  (w.frozen? ⟨b, 0, none⟩ = false ∧ w.frozen? ⟨b, 1, none⟩ = false ∧ w.frozen? ⟨b, 2, none⟩ = false ∧ w.frozen? ⟨b, 3, none⟩ = false)
def st4 (w : World) (b : Nat) (A : Nat → Nat) : World := (((w.setCell ⟨b, 0, none⟩ (.int .u64 (A 0))).setCell ⟨b, 1, none⟩ (.int .u64 (A 1))).setCell ⟨b, 2, none⟩ (.int .u64 (A 2))).setCell ⟨b, 3, none⟩ (.int .u64 (A 3))
theorem BoxF.below {w w' : World} {b B : Nat} {S : Nat → Nat} (h : BoxF w b S) (hw : Below B w w') (hb : b < B) : BoxF w' b S := by
  obtain ⟨⟨h0, h1, h2, h3⟩, f0, f1, f2, f3⟩ := h
  exact ⟨⟨by rw [hw.cell hb]; exact h0, by rw [hw.cell hb]; exact h1, by rw [hw.cell hb]; exact h2, by rw [hw.cell hb]; exact h3⟩, by rw [hw.frozen hb]; exact f0, by rw [hw.frozen hb]; exact f1, by rw [hw.frozen hb]; exact f2, by rw [hw.frozen hb]; exact f3⟩
theorem BoxF.new (w : World) (S : Nat → Nat) (t : TypeId) : BoxF (w.alloc (.cells #[.int .u64 (S 0), .int .u64 (S 1), .int .u64 (S 2), .int .u64 (S 3)] t)) w.heap.size S := by
  refine ⟨⟨?_, ?_, ?_, ?_⟩, ?_, ?_, ?_, ?_⟩ <;> simp [go_sem]
theorem BoxF.zero (w : World) (t : TypeId) : BoxF (w.alloc (.cells #[.int .u64 0, .int .u64 0, .int .u64 0, .int .u64 0] t)) w.heap.size noS := BoxF.new w noS t
theorem BoxF.alloc {w : World} {b : Nat} {S : Nat → Nat} (h : BoxF w b S) (hb : b < w.heap.size) (o : Obj) : BoxF (w.alloc o) b S := h.below ((Below.refl _ w).alloc (Nat.le_refl _) o) hb
theorem BoxF.st {w : World} {b : Nat} {S : Nat → Nat} (h : BoxF w b S) (A : Nat → Nat) : BoxF (st4 w b A) b A := by
  obtain ⟨⟨h0, h1, h2, h3⟩, f0, f1, f2, f3⟩ := h
  unfold st4
  refine ⟨⟨?_, ?_, ?_, ?_⟩, ?_, ?_, ?_, ?_⟩ <;> simp [go_sem, *]
theorem BoxF.other {w : World} {b b' : Nat} {S : Nat → Nat} (h : BoxF w b S) (hne : b ≠ b') (A : Nat → Nat) : BoxF (st4 w b' A) b S := by
  obtain ⟨⟨h0, h1, h2, h3⟩, f0, f1, f2, f3⟩ := h
  unfold st4
  refine ⟨⟨?_, ?_, ?_, ?_⟩, ?_, ?_, ?_, ?_⟩ <;> simp [go_sem, *]
theorem below_st4 {B : Nat} {w w1 : World} (h : Below B w w1) {b : Nat} (hb : B ≤ b) (A : Nat → Nat) : Below B w (st4 w1 b A) := below4 h hb _ _ _ _
theorem size_st4 (w : World) (b : Nat) (A : Nat → Nat) : (st4 w b A).heap.size = w.heap.size := by simp [st4, World.setCell]
def bld (f : Nat → Bool) : Nat → Nat → Nat
  | 0 => noS
  | n + 1 => if f n = true then ins (bld f n) n else bld f n
theorem OkS.bld (f : Nat → Bool) : ∀ n, OkS (bld f n)
  | 0 => OkS.no
  | n + 1 => by
    unfold Proofs.Ytncbmdbfdjhkeaa.bld
    split
    · exact (OkS.bld f n).ins n
    · exact OkS.bld f n
end Go.Proofs.Ytncbmdbfdjhkeaa

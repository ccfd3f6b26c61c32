/-
  The law's escaped: a text whose delimiters, backslashes and line feeds have a backslash ahead; how it is cut, and how it is read as lines. Condition: a text of at most 2^20 bytes.
-/
import Derived.Test.YtkgpicalbpimdaaTkrc
import Derived.Test.YtkgpicalbpimdaaTkalv
namespace Go.Proofs.Ytkgpicalbpimdaa
open Go.RowKit Go.Deep

def escC (d c : UInt8) : List UInt8 := if c = d ∨ c = 92 ∨ c = 10 then [92, c] else [c]
def esc (d : UInt8) (l : List UInt8) : List UInt8 := l.flatMap (escC d)
theorem esc_cons (d c : UInt8) (l : List UInt8) : esc d (c :: l) = escC d c ++ esc d l := by simp [esc]
theorem esc_take {d : UInt8} {l : List UInt8} {m : Nat} {c : UInt8} (h : l[m]? = some c) : esc d (l.take (m + 1)) = esc d (l.take m) ++ escC d c := by
  rw [List.take_add_one, h]
  simp [esc]
theorem escC_le (d c : UInt8) : (escC d c).length ≤ 2 := by unfold escC; split <;> simp
theorem esc_le (d : UInt8) (l : List UInt8) : (esc d l).length ≤ 2 * l.length := by
  induction l with
  | nil => simp [esc]
  | cons c r ih =>
    rw [esc_cons, List.length_append, List.length_cons]
    have := escC_le d c
    omega
def wantC (c : UInt8) : List UInt8 := if c = 92 ∨ c = 10 then [92, c] else [c]
def wantB (l : List UInt8) : List UInt8 := l.flatMap wantC
theorem want_take {l : List UInt8} {m : Nat} {c : UInt8} (h : l[m]? = some c) : wantB (l.take (m + 1)) = wantB (l.take m) ++ wantC c := by
  rw [List.take_add_one, h]
  simp [wantB]
theorem want_le (l : List UInt8) : (wantB l).length ≤ 2 * l.length := by
  induction l with
  | nil => simp [wantB]
  | cons c r ih =>
    have e : wantB (c :: r) = wantC c ++ wantB r := by simp [wantB]
    have h2 : (wantC c).length ≤ 2 := by unfold wantC; split <;> simp
    rw [e, List.length_append, List.length_cons]
    omega
/-- How an escaped text is cut. -/
theorem cut_esc {d : UInt8} (h1 : d ≠ 10) (h2 : d ≠ 92) (l r : List UInt8) : cutF d true (esc d l ++ r) = (cutF d true r).map fun p => (wantB l ++ p.1, (esc d l).length + p.2) := by
  induction l with
  | nil => simp [esc, wantB]
  | cons c l ih =>
    have ew : wantB (c :: l) = wantC c ++ wantB l := by simp [wantB]
    rw [esc_cons, ew]
    by_cases hc : c = d ∨ c = 92 ∨ c = 10
    · have e1 : escC d c = [92, c] := if_pos hc
      have e2 : (if c = d then [c] else [92, c]) = wantC c := by
        unfold wantC
        by_cases hd : c = d
        · rw [if_pos hd, if_neg (by rw [hd]; intro h; rcases h with h | h; exact h2 h; exact h1 h)]
        · rw [if_neg hd, if_pos (by rcases hc with h | h; exact absurd h hd; exact h)]
      rw [e1]
      show cutF d true (92 :: c :: (esc d l ++ r)) = _
      rw [cut_back h2 true c _ (by simp), ih, e2]
      cases cutF d true r with
      | none => rfl
      | some p => simp [Nat.add_comm, Nat.add_left_comm]; omega
    · have e1 : escC d c = [c] := if_neg hc
      have e2 : wantC c = [c] := by unfold wantC; rw [if_neg (fun h => hc (.inr h))]
      rw [e1, e2]
      show cutF d true (c :: (esc d l ++ r)) = _
      rw [cut_other (fun h => hc (.inr (.inr h))) (fun h => hc (.inl h)) (fun h => hc (.inr (.inl h))), ih]
      cases cutF d true r with
      | none => rfl
      | some p => simp [Nat.add_comm, Nat.add_left_comm]
theorem cut_esc_end {d : UInt8} (h1 : d ≠ 10) (h2 : d ≠ 92) (l r : List UInt8) : cutG d true (esc d l ++ [d] ++ r) 0 = some (wantB l, (esc d l).length + 1) := by
  unfold cutG
  rw [if_pos ⟨by omega, by omega, h1, h2⟩]
  unfold cutAt
  simp only [Int.toNat_zero, List.drop_zero]
  rw [List.append_assoc, cut_esc h1 h2, List.singleton_append, cut_delim h1]
  simp
theorem cut_esc_none {d : UInt8} (h1 : d ≠ 10) (h2 : d ≠ 92) (l : List UInt8) : cutG d true (esc d l) 0 = none := by
  unfold cutG
  rw [if_pos ⟨by omega, by omega, h1, h2⟩]
  unfold cutAt
  simp only [Int.toNat_zero, List.drop_zero]
  have := cut_esc h1 h2 l []
  rw [List.append_nil] at this
  rw [this]
  rfl
/-- How a text escaped for lines is read. -/
theorem lin_esc (l r : List UInt8) : linF (esc 92 l ++ r) = (linF r).map fun p => (l ++ p.1, (esc 92 l).length + p.2) := by
  induction l with
  | nil => simp [esc]
  | cons c l ih =>
    rw [esc_cons]
    by_cases hc : c = 92 ∨ c = 92 ∨ c = 10
    · have e1 : escC 92 c = [92, c] := if_pos hc
      rw [e1]
      show linF (92 :: c :: (esc 92 l ++ r)) = _
      rw [lin_back, ih]
      cases linF r with
      | none => rfl
      | some p => simp [Nat.add_comm, Nat.add_left_comm]; omega
    · have e1 : escC 92 c = [c] := if_neg hc
      rw [e1]
      show linF (c :: (esc 92 l ++ r)) = _
      rw [lin_other (fun h => hc (.inr (.inr h))) (fun h => hc (.inl h)), ih]
      cases linF r with
      | none => rfl
      | some p => simp [Nat.add_comm, Nat.add_left_comm]

structure EscJ (d : UInt8) (l : List UInt8) (w wr : World) (m : Nat) (S : ByteArray) : Prop where
  le : m ≤ l.length
  str : S = txt (esc d (l.take m))
  below : Below w.heap.size w wr
theorem EscJ.size {d : UInt8} {l : List UInt8} {w wr : World} {m : Nat} {S : ByteArray} (h : EscJ d l w wr m S) (hl : l.length ≤ 1048576) : S.size ≤ 2097152 := by
  rw [h.str, size_txt]
  have := esc_le d (l.take m)
  rw [List.length_take] at this
  omega
set_option maxRecDepth 100000 in
set_option maxHeartbeats 4000000 in
theorem escaped_is (t : ByteArray) (hz : t.size ≤ 1048576) (d : UInt8) (w : World) : Calls Try.prog 23 #[.string t, .int .u8 (d.toNat : Int)] w fun e w' => e = .returned (.string (txt (esc d t.data.toList))) ∧ Below w.heap.size w w' := by
  have HSZ := Lib.hid (size_of (s := t) rfl)
  have HZ := Lib.hid hz
  clear hz
  have HCV := Lib.hid (show ∀ W : World, (convert 37 9 (.slice (some ⟨W.heap.size, 0, none⟩) 1 1)).run Try.prog (W.alloc (.cells #[.int .u8 92] 5)) = .ok (.string ⟨#[92]⟩) (W.alloc (.cells #[.int .u8 92] 5)) from fun W => run_one 92 W)
  go_enter Try.func23, Try.ntmps23
  go_wp2_with fail
  go_loopw [5, 6] (fun x v wz => ∃ (m : Nat) (S : ByteArray), v = .int .i64 (m : Int) ∧ x = .string S ∧ Hid (EscJ d t.data.toList w wz m S)) (fun _ v _ => t.size + 1 - (intOf v).toNat)
  case atStart => exact ⟨0, _, rfl, rfl, Lib.hid ⟨by omega, by simp [esc]; rfl, Below.refl _ _⟩⟩
  case round =>
    obtain ⟨m, S, rfl, rfl, HJ⟩ := hrel
    have hSS := HJ.out.size (by rw [← HSZ.out]; exact HZ.out)
    by_cases hm : m < t.size
    case neg =>
      have gm : decide ((m : Int) < (t.size : Int)) = false := decide_eq_false (by omega)
      have gmn : decide (m < t.size) = false := decide_eq_false hm
      have hge : (t.size : Int) ≤ (m : Int) := by omega
      have HE := Lib.hid (show S = txt (esc d t.data.toList) by rw [HJ.out.str, List.take_of_length_le (by rw [← HSZ.out]; omega)])
      clear hm
      go_wp2_with fail
      go_ret
      exact ⟨by rw [← HE.out]; rfl, HJ.out.below⟩
    case pos =>
    have gm : decide ((m : Int) < (t.size : Int)) = true := decide_eq_true (by omega)
    have hmi : (m : Int) < (t.size : Int) := by omega
    obtain ⟨c, hc⟩ : ∃ c, t.data.toList[m]? = some c := ⟨_, List.getElem?_eq_getElem (by simpa using hm)⟩
    have hat := at_of rfl hc
    obtain ⟨m1, hm1⟩ : ∃ m1, m1 = m + 1 := ⟨_, rfl⟩
    have HWM := Lib.hid (addU (by have := HZ.out; omega) hm1)
    have HML := Lib.hid (show t.size + 1 - m1 < t.size + 1 - m by omega)
    have hsl := fun W => one_slice hc hm1 W
    obtain ⟨X, hX⟩ : ∃ X, X = txt [c] := ⟨_, rfl⟩
    rw [← hX] at hsl
    have hXs : X.size ≤ 1 := by rw [hX, size_txt]; simp
    have hcv := HCV.out wr
    have hs2 : (S ++ (⟨#[92]⟩ : ByteArray)).size ≤ 2097153 := by
      rw [HJ.out.str, size_txt] at hSS
      rw [HJ.out.str, show (⟨#[92]⟩ : ByteArray) = txt [92] from rfl, txt_append, size_txt, List.length_append]
      simp only [List.length_cons, List.length_nil]; omega
    have HY := Lib.hid (fun (h : c = d ∨ c = 92 ∨ c = 10) => show ∀ wz, Below w.heap.size w wz → EscJ d t.data.toList w wz m1 (S ++ ⟨#[92]⟩ ++ X) from fun wz hb => ⟨by rw [← HSZ.out]; omega, by
      rw [hm1, esc_take hc, HJ.out.str, hX, show (⟨#[92]⟩ : ByteArray) = txt [92] from rfl, txt_append, txt_append, List.append_assoc, show escC d c = [92, c] from if_pos h]; rfl, hb⟩)
    have HN := Lib.hid (fun (h : ¬ (c = d ∨ c = 92 ∨ c = 10)) => show ∀ wz, Below w.heap.size w wz → EscJ d t.data.toList w wz m1 (S ++ X) from fun wz hb => ⟨by rw [← HSZ.out]; omega, by
      rw [hm1, esc_take hc, HJ.out.str, hX, txt_append, show escC d c = [c] from if_neg h], hb⟩)
    by_cases h1 : c = d
    · have q1 : ((c.toNat : Int) == (d.toNat : Int)) = true := by rw [u8_same]; exact decide_eq_true h1
      have HF := Lib.hid (HY.out (.inl h1))
      have hwm := HWM.out
      clear hc h1 hm1 hX
      go_wp2_with fail
      exact ⟨⟨m1, _, rfl, rfl, Lib.hid (HF.out _ (HJ.out.below.alloc HJ.out.below.size _))⟩, by simpa [intOf] using HML.out⟩
    have q1 : ((c.toNat : Int) == (d.toNat : Int)) = false := by rw [u8_same]; exact decide_eq_false h1
    by_cases h2 : c = 92
    · have q2 : ((c.toNat : Int) == 92) = true := u8_yes c 92 h2 (by decide)
      have HF := Lib.hid (HY.out (.inr (.inl h2)))
      have hwm := HWM.out
      clear hc h1 h2 hm1 hX
      go_wp2_with fail
      exact ⟨⟨m1, _, rfl, rfl, Lib.hid (HF.out _ (HJ.out.below.alloc HJ.out.below.size _))⟩, by simpa [intOf] using HML.out⟩
    have q2 : ((c.toNat : Int) == 92) = false := u8_no c 92 h2 (by decide)
    by_cases h3 : c = 10
    · have q3 : ((c.toNat : Int) == 10) = true := u8_yes c 10 h3 (by decide)
      have HF := Lib.hid (HY.out (.inr (.inr h3)))
      have hwm := HWM.out
      clear hc h1 h2 h3 hm1 hX
      go_wp2_with fail
      exact ⟨⟨m1, _, rfl, rfl, Lib.hid (HF.out _ (HJ.out.below.alloc HJ.out.below.size _))⟩, by simpa [intOf] using HML.out⟩
    · have q3 : ((c.toNat : Int) == 10) = false := u8_no c 10 h3 (by decide)
      have HF := Lib.hid (HN.out (by intro h; rcases h with h | h | h; exact h1 h; exact h2 h; exact h3 h))
      have hwm := HWM.out
      clear hc h1 h2 h3 hm1 hX hs2 hcv
      go_wp2_with fail
      exact ⟨⟨m1, _, rfl, rfl, Lib.hid (HF.out _ HJ.out.below)⟩, by simpa [intOf] using HML.out⟩
end Go.Proofs.Ytkgpicalbpimdaa

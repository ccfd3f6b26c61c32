/-
  Frames as plain lists of bytes: what a frame is, how bytes begin with one, and that one byte tells. No condition.
-/
import Derived.Test.YtpfdlcogldbocaaBytes
namespace Go.Proofs.Ytpfdlcogldbocaa

def byteSum (l : List UInt8) : Nat := (l.map UInt8.toNat).sum
theorem byteSum_set : ∀ (l : List UInt8) (k : Nat) (b c : UInt8), l[k]? = some b → byteSum (l.set k c) + b.toNat = byteSum l + c.toNat
  | [], k, b, c, h => by simp at h
  | x :: r, 0, b, c, h => by
    simp at h
    subst h
    simp [byteSum]; omega
  | x :: r, k + 1, b, c, h => by
    have := byteSum_set r k b c (by simpa using h)
    simp only [byteSum, List.set_cons_succ, List.map_cons, List.sum_cons] at this ⊢
    omega
theorem fwalk_sum : ∀ (l : List UInt8) (p : Nat × Nat), (fwalk p l).1 % 65521 = (p.1 + byteSum l) % 65521
  | [], p => by simp [fwalk, byteSum]
  | x :: r, p => by
    have h1 := fwalk_sum r (fst1 p x)
    have h2 : (fwalk p (x :: r)) = fwalk (fst1 p x) r := rfl
    rw [h2, h1]
    have h3 : (fst1 p x).1 = (p.1 + x.toNat) % 65521 := rfl
    have h4 : byteSum (x :: r) = x.toNat + byteSum r := by simp [byteSum]
    rw [h3, h4]
    omega
/-- One byte tells. -/
theorem more_one (l : List UInt8) (k : Nat) (b c : UInt8) (h : l[k]? = some b) (hne : c ≠ b) : more 1 (l.set k c) ≠ more 1 l := by
  intro he
  have e1 := fend_inj _ _ (fwalk_lt _ _ (fbegin_lt 1)) (fwalk_lt _ _ (fbegin_lt 1)) he
  have e2 := fwalk_sum (l.set k c) (fbegin 1)
  have e3 := fwalk_sum l (fbegin 1)
  rw [e1, e3] at e2
  have e4 := byteSum_set l k b c h
  have hb := b.toNat_lt
  have hc := c.toNat_lt
  have hn : c.toNat ≠ b.toNat := fun e => hne (UInt8.toNat_inj.1 e)
  omega
theorem xor_ne (b c : UInt8) (h : c ≠ 0) : b ^^^ c ≠ b := by
  intro e
  apply h
  have := congrArg (fun x => b ^^^ x) e
  simp only [← UInt8.xor_assoc, UInt8.xor_self, UInt8.zero_xor] at this
  exact this

/-! ### frames -/
def hdr (n : Nat) : List UInt8 := [167, UInt8.ofNat (n - 1), UInt8.ofNat ((n - 1) / 256)]
def le4 (s : Nat) : List UInt8 := [UInt8.ofNat s, UInt8.ofNat (s / 256), UInt8.ofNat (s / 65536), UInt8.ofNat (s / 16777216)]
def frame (l : List UInt8) : List UInt8 := hdr l.length ++ le4 (more 1 (hdr l.length ++ l)) ++ l
def RecOk (l : List UInt8) : Prop := 1 ≤ l.length ∧ l.length ≤ 4096

def at0 (b : List UInt8) (i : Nat) : Nat := (b.getD i 0).toNat
def ln (b : List UInt8) : Nat := at0 b 1 + 256 * at0 b 2 + 1
def stored (b : List UInt8) : Nat := at0 b 3 + 256 * at0 b 4 + 65536 * at0 b 5 + 16777216 * at0 b 6
def rcd (b : List UInt8) : List UInt8 := (b.drop 7).take (ln b)
def hdrE (b : List UInt8) : Nat := if (0 < b.length ∧ at0 b 0 ≠ 167) ∨ (2 < b.length ∧ 16 ≤ at0 b 2) then 41 else if b.length < 3 then 42 else 0
def takeE (b : List UInt8) : Nat := if hdrE b ≠ 0 then hdrE b else if b.length < 7 + ln b then 42 else if stored b ≠ more 1 (b.take 3 ++ rcd b) then 41 else 0

theorem length_hdr (n : Nat) : (hdr n).length = 3 := rfl
theorem length_le4 (n : Nat) : (le4 n).length = 4 := rfl
theorem length_frame (l : List UInt8) : (frame l).length = 7 + l.length := by
  unfold frame
  rw [List.length_append, List.length_append, length_hdr, length_le4]
theorem frame_eq (l : List UInt8) : frame l = 167 :: UInt8.ofNat (l.length - 1) :: UInt8.ofNat ((l.length - 1) / 256) :: (le4 (more 1 (hdr l.length ++ l)) ++ l) := rfl

theorem at0_lt (b : List UInt8) (i : Nat) : at0 b i < 256 := (b.getD i 0).toNat_lt
theorem at0_of {b : List UInt8} {i : Nat} {x : UInt8} (h : b[i]? = some x) : at0 b i = x.toNat := by
  unfold at0
  rw [List.getD_eq_getElem?_getD, h]
  rfl
theorem hdrE_le (b : List UInt8) : hdrE b = 0 ∨ hdrE b = 41 ∨ hdrE b = 42 := by
  unfold hdrE
  split
  · exact .inr (.inl rfl)
  · split
    · exact .inr (.inr rfl)
    · exact .inl rfl
theorem hdrE_zero {b : List UInt8} : hdrE b = 0 ↔ 3 ≤ b.length ∧ at0 b 0 = 167 ∧ at0 b 2 < 16 := by
  unfold hdrE
  constructor
  · intro h
    split at h
    · cases h
    · split at h
      · cases h
      · omega
  · rintro ⟨h1, h2, h3⟩
    rw [if_neg (by omega), if_neg (by omega)]
theorem takeE_le (b : List UInt8) : takeE b = 0 ∨ takeE b = 41 ∨ takeE b = 42 := by
  unfold takeE
  have := hdrE_le b
  split
  · omega
  · split
    · exact .inr (.inr rfl)
    · split
      · exact .inr (.inl rfl)
      · exact .inl rfl
theorem takeE_zero {b : List UInt8} : takeE b = 0 ↔ hdrE b = 0 ∧ 7 + ln b ≤ b.length ∧ stored b = more 1 (b.take 3 ++ rcd b) := by
  unfold takeE
  constructor
  · intro h
    split at h
    · omega
    · split at h
      · cases h
      · split at h
        · cases h
        · rename_i h1 h2 h3
          exact ⟨Classical.not_not.1 h1, by omega, Classical.not_not.1 h3⟩
  · rintro ⟨h1, h2, h3⟩
    rw [if_neg (by simp [h1]), if_neg (by omega), if_neg (by simp [h3])]
theorem takeE_bad {b : List UInt8} (h : hdrE b ≠ 0) : takeE b = hdrE b := if_pos h
theorem takeE_short {b : List UInt8} (h : hdrE b = 0) (hl : b.length < 7 + ln b) : takeE b = 42 := by
  unfold takeE
  rw [if_neg (by simp [h]), if_pos hl]
theorem takeE_sum {b : List UInt8} (h : hdrE b = 0) (hl : 7 + ln b ≤ b.length) (hs : stored b ≠ more 1 (b.take 3 ++ rcd b)) : takeE b = 41 := by
  unfold takeE
  rw [if_neg (by simp [h]), if_neg (by omega), if_pos hs]
theorem takeE_nil : takeE [] = 42 := by decide

theorem length_rcd {b : List UInt8} (h : 7 + ln b ≤ b.length) : (rcd b).length = ln b := by
  unfold rcd
  rw [List.length_take, List.length_drop]
  omega
theorem ofNat_toNat_u8 (x : UInt8) (n : Nat) (h : n % 256 = x.toNat) : UInt8.ofNat n = x := by
  apply UInt8.toNat_inj.1
  rw [UInt8.toNat_ofNat', ← h]
theorem le4_eq {s : Nat} {a b c d : UInt8} (hs : s < 4294967296) : le4 s = [a, b, c, d] ↔ a.toNat + 256 * b.toNat + 65536 * c.toNat + 16777216 * d.toNat = s := by
  have ha := a.toNat_lt
  have hb := b.toNat_lt
  have hc := c.toNat_lt
  have hd := d.toNat_lt
  unfold le4
  constructor
  · intro h
    simp only [List.cons.injEq, and_true] at h
    obtain ⟨h1, h2, h3, h4⟩ := h
    have e1 := congrArg UInt8.toNat h1
    have e2 := congrArg UInt8.toNat h2
    have e3 := congrArg UInt8.toNat h3
    have e4 := congrArg UInt8.toNat h4
    rw [UInt8.toNat_ofNat'] at e1 e2 e3 e4
    omega
  · intro h
    rw [ofNat_toNat_u8 a s (by omega), ofNat_toNat_u8 b (s / 256) (by omega), ofNat_toNat_u8 c (s / 65536) (by omega), ofNat_toNat_u8 d (s / 16777216) (by omega)]

/-- What bytes begin with: the frame of their record, where the sum is right. -/
theorem frame_begins {b : List UInt8} (h : hdrE b = 0) (hl : 7 + ln b ≤ b.length) : frame (rcd b) = b.take (7 + ln b) ↔ stored b = more 1 (b.take 3 ++ rcd b) := by
  obtain ⟨h3, h0, h2⟩ := hdrE_zero.1 h
  have hln := length_rcd hl
  have e := List.take_append_drop 7 b
  match b, h0, h2, hl, hln, h3 with
  | b0 :: b1 :: b2 :: b3 :: b4 :: b5 :: b6 :: r, h0, h2, hl, hln, _ =>
    have hb0 : b0.toNat = 167 := h0
    have hb2 : b2.toNat < 16 := h2
    have hlne : ln (b0 :: b1 :: b2 :: b3 :: b4 :: b5 :: b6 :: r) = b1.toNat + 256 * b2.toNat + 1 := rfl
    have hb1 := b1.toNat_lt
    have hh : hdr (rcd (b0 :: b1 :: b2 :: b3 :: b4 :: b5 :: b6 :: r)).length = [b0, b1, b2] := by
      rw [hln, hlne]
      unfold hdr
      rw [ofNat_toNat_u8 b1 _ (by omega), ofNat_toNat_u8 b2 _ (by omega), show b0 = 167 from UInt8.toNat_inj.1 hb0]
    have ht : (b0 :: b1 :: b2 :: b3 :: b4 :: b5 :: b6 :: r).take (7 + ln (b0 :: b1 :: b2 :: b3 :: b4 :: b5 :: b6 :: r)) = [b0, b1, b2] ++ [b3, b4, b5, b6] ++ rcd (b0 :: b1 :: b2 :: b3 :: b4 :: b5 :: b6 :: r) := by
      rw [Nat.add_comm]
      rfl
    rw [ht]
    unfold frame
    rw [hh]
    rw [List.append_cancel_right_eq, List.append_cancel_left_eq]
    rw [le4_eq (more_lt _ _)]
    rfl
  | [], _, _, hl, _, _ => simp at hl
  | [_], _, _, hl, _, _ => simp at hl; omega
  | [_, _], _, _, hl, _, _ => simp at hl; omega
  | [_, _, _], _, _, hl, _, _ => simp at hl; omega
  | [_, _, _, _], _, _, hl, _, _ => simp at hl; omega
  | [_, _, _, _, _], _, _, hl, _, _ => simp at hl; omega
  | [_, _, _, _, _, _], _, _, hl, _, _ => simp at hl; omega

theorem rcdOk {b : List UInt8} (h : hdrE b = 0) (hl : 7 + ln b ≤ b.length) : RecOk (rcd b) := by
  obtain ⟨h3, h0, h2⟩ := hdrE_zero.1 h
  have := at0_lt b 1
  refine ⟨?_, ?_⟩ <;> rw [length_rcd hl] <;> unfold ln <;> omega
theorem taken_is {b : List UInt8} (h : takeE b = 0) : RecOk (rcd b) ∧ b = frame (rcd b) ++ b.drop (7 + ln b) ∧ (rcd b).length = ln b ∧ 7 + ln b ≤ b.length := by
  obtain ⟨h1, h2, h3⟩ := takeE_zero.1 h
  refine ⟨rcdOk h1 h2, ?_, length_rcd h2, h2⟩
  rw [(frame_begins h1 h2).2 h3, List.take_append_drop]

theorem frame_more (l r : List UInt8) (h : RecOk l) : ln (frame l ++ r) = l.length ∧ hdrE (frame l ++ r) = 0 ∧ rcd (frame l ++ r) = l := by
  obtain ⟨h1, h2⟩ := h
  have e0 : at0 (frame l ++ r) 0 = 167 := rfl
  have e1 : at0 (frame l ++ r) 1 = (l.length - 1) % 256 := by
    have : at0 (frame l ++ r) 1 = (UInt8.ofNat (l.length - 1)).toNat := rfl
    rw [this, UInt8.toNat_ofNat']
  have e2 : at0 (frame l ++ r) 2 = (l.length - 1) / 256 := by
    have : at0 (frame l ++ r) 2 = (UInt8.ofNat ((l.length - 1) / 256)).toNat := rfl
    rw [this, UInt8.toNat_ofNat']
    omega
  have el : ln (frame l ++ r) = l.length := by
    unfold ln
    rw [e1, e2]
    omega
  refine ⟨el, hdrE_zero.2 ⟨?_, e0, by omega⟩, ?_⟩
  · rw [List.length_append, length_frame]; omega
  · unfold rcd
    rw [el]
    have : (frame l ++ r).drop 7 = l ++ r := rfl
    rw [this, List.take_left']
    rfl
/-- There and back. -/
theorem take_frame (l r : List UInt8) (h : RecOk l) : takeE (frame l ++ r) = 0 ∧ rcd (frame l ++ r) = l ∧ ln (frame l ++ r) = l.length := by
  obtain ⟨h1, h2, h3⟩ := frame_more l r h
  have hl : 7 + ln (frame l ++ r) ≤ (frame l ++ r).length := by
    rw [h1, List.length_append, length_frame]; omega
  refine ⟨takeE_zero.2 ⟨h2, hl, ?_⟩, h3, h1⟩
  rw [← frame_begins h2 hl, h3, h1, List.take_append_of_le_length (by rw [length_frame]; omega), List.take_of_length_le (by rw [length_frame]; omega)]
/-- A piece of a frame is too short. -/
theorem take_piece (l : List UInt8) (h : RecOk l) (i : Nat) (hi : i < (frame l).length) : takeE ((frame l).take i) = 42 := by
  have hh := h
  obtain ⟨h1, h2⟩ := h
  rw [length_frame] at hi
  have hlen : ((frame l).take i).length = i := by rw [List.length_take, length_frame]; omega
  obtain ⟨a1, a2, a3⟩ := frame_more l [] hh
  rw [List.append_nil] at a1 a2 a3
  obtain ⟨b1, b2, b3⟩ := hdrE_zero.1 a2
  have hat : ∀ j, j < i → at0 ((frame l).take i) j = at0 (frame l) j := fun j hj => by
    unfold at0
    rw [List.getD_eq_getElem?_getD, List.getD_eq_getElem?_getD, List.getElem?_take, if_pos hj]
  by_cases h3 : i < 3
  · have hE : hdrE ((frame l).take i) = 42 := by
      unfold hdrE
      rw [if_neg, if_pos (by omega)]
      rintro (⟨x, y⟩ | ⟨x, y⟩)
      · rw [hat 0 (by omega)] at y; exact y b2
      · omega
    rw [takeE_bad (by omega), hE]
  · have hE : hdrE ((frame l).take i) = 0 := hdrE_zero.2 ⟨by omega, by rw [hat 0 (by omega)]; exact b2, by rw [hat 2 (by omega)]; exact b3⟩
    refine takeE_short hE ?_
    have : ln ((frame l).take i) = ln (frame l) := by
      unfold ln
      rw [hat 1 (by omega), hat 2 (by omega)]
    rw [this, a1, hlen]
    exact hi

theorem getElem?_frame_lt (l : List UInt8) (k : Nat) (hk : k < 7 + l.length) : ∃ x, (frame l)[k]? = some x := ⟨_, List.getElem?_eq_getElem (by rw [length_frame]; exact hk)⟩
/-- One byte off. -/
theorem take_off (l : List UInt8) (h : RecOk l) (k : Nat) (x y : UInt8) (hx : (frame l)[k]? = some x) (hy : y ≠ x) :
    (takeE ((frame l).set k y) = 0 → (k = 1 ∨ k = 2) ∧ ln ((frame l).set k y) < l.length) ∧ (takeE ((frame l).set k y) = 42 → k = 1 ∨ k = 2) := by
  have hk := (List.getElem?_eq_some_iff.1 hx).1
  rw [length_frame] at hk
  obtain ⟨a1, a2, a3⟩ := frame_more l [] h
  obtain ⟨t1, _, _⟩ := take_frame l [] h
  rw [List.append_nil] at a1 a2 a3 t1
  obtain ⟨b1, b2, b3⟩ := hdrE_zero.1 a2
  have hset : ∀ j, j ≠ k → at0 ((frame l).set k y) j = at0 (frame l) j := fun j hj => by
    unfold at0
    rw [List.getD_eq_getElem?_getD, List.getD_eq_getElem?_getD, List.getElem?_set_ne (Ne.symm hj)]
  have hat : at0 ((frame l).set k y) k = y.toNat := at0_of (by rw [List.getElem?_set_self (by rw [length_frame]; exact hk)])
  have hat' : at0 (frame l) k = x.toNat := at0_of hx
  have hne : y.toNat ≠ x.toNat := fun e => hy (UInt8.toNat_inj.1 e)
  have hlen : ((frame l).set k y).length = 7 + l.length := by rw [List.length_set, length_frame]
  by_cases k0 : k = 0
  · subst k0
    have hE : hdrE ((frame l).set 0 y) = 41 := by
      unfold hdrE
      rw [if_pos (.inl ⟨by omega, by rw [hat]; omega⟩)]
    rw [takeE_bad (by omega), hE]
    exact ⟨fun e => by omega, fun e => by omega⟩
  · by_cases k12 : k = 1 ∨ k = 2
    · refine ⟨fun e => ⟨k12, ?_⟩, fun _ => k12⟩
      obtain ⟨_, _, c3, c4⟩ := taken_is e
      have hn : ln ((frame l).set k y) ≠ l.length := by
        rw [← a1]
        unfold ln
        rcases k12 with rfl | rfl
        · rw [hat, hset 2 (by omega), hat']
          have := y.toNat_lt
          have := x.toNat_lt
          omega
        · rw [hat, hset 1 (by omega), hat']
          omega
      omega
    · have hE : hdrE ((frame l).set k y) = 0 := hdrE_zero.2 ⟨by omega, by rw [hset 0 (by omega)]; exact b2, by rw [hset 2 (by omega)]; exact b3⟩
      have hln : ln ((frame l).set k y) = l.length := by
        rw [← a1]
        unfold ln
        rw [hset 1 (by omega), hset 2 (by omega)]
      have hl : 7 + ln ((frame l).set k y) ≤ ((frame l).set k y).length := by omega
      have t3 := (takeE_zero.1 t1).2.2
      have h3 : ((frame l).set k y).take 3 = (frame l).take 3 := by
        rw [List.take_set_of_le (by omega)]
      have hs : stored ((frame l).set k y) ≠ more 1 (((frame l).set k y).take 3 ++ rcd ((frame l).set k y)) := by
        rw [h3]
        by_cases k7 : k < 7
        · have hr : rcd ((frame l).set k y) = rcd (frame l) := by
            unfold rcd
            rw [hln, a1, List.drop_set_of_lt k7]
          rw [hr, ← t3]
          unfold stored
          have k' : k = 3 ∨ k = 4 ∨ k = 5 ∨ k = 6 := by omega
          rcases k' with rfl | rfl | rfl | rfl
          · rw [hat, hset 4 (by omega), hset 5 (by omega), hset 6 (by omega), hat']; omega
          · rw [hset 3 (by omega), hat, hset 5 (by omega), hset 6 (by omega), hat']; omega
          · rw [hset 3 (by omega), hset 4 (by omega), hat, hset 6 (by omega), hat']; omega
          · rw [hset 3 (by omega), hset 4 (by omega), hset 5 (by omega), hat, hat']; omega
        · have hst : stored ((frame l).set k y) = stored (frame l) := by
            unfold stored
            rw [hset 3 (by omega), hset 4 (by omega), hset 5 (by omega), hset 6 (by omega)]
          have hr : rcd ((frame l).set k y) = (rcd (frame l)).set (k - 7) y := by
            unfold rcd
            rw [hln, a1, List.drop_set, if_neg (by omega), List.take_set]
          have hb : (frame l).take 3 ++ (rcd (frame l)).set (k - 7) y = ((frame l).take 3 ++ rcd (frame l)).set (k - 4) y := by
            rw [List.set_append, if_neg (by rw [List.length_take, length_frame]; omega)]
            have e34 : k - 4 - ((frame l).take 3).length = k - 7 := by rw [List.length_take, length_frame]; omega
            rw [e34]
          rw [hst, t3, hr, hb]
          have hget : ((frame l).take 3 ++ rcd (frame l))[k - 4]? = some x := by
            rw [List.getElem?_append_right (by rw [List.length_take, length_frame]; omega), List.length_take, length_frame]
            unfold rcd
            rw [List.getElem?_take, if_pos (by rw [a1]; omega), List.getElem?_drop, ← hx]
            congr 1
            omega
          exact fun e => more_one _ _ _ _ hget hy e.symm
      rw [takeE_sum hE hl hs]
      exact ⟨fun e => by omega, fun e => by omega⟩

/-! ### records one behind the other -/
def frames (ls : List (List UInt8)) : List UInt8 := (ls.map frame).flatten
def IsScan (b : List UInt8) (ls : List (List UInt8)) (n : Nat) : Prop := n ≤ b.length ∧ b.take n = frames ls ∧ (∀ l ∈ ls, RecOk l) ∧ takeE (b.drop n) ≠ 0

theorem frames_snoc (ls : List (List UInt8)) (l : List UInt8) : frames (ls ++ [l]) = frames ls ++ frame l := by simp [frames]
theorem frames_cons (ls : List (List UInt8)) (l : List UInt8) : frames (l :: ls) = frame l ++ frames ls := by simp [frames]
theorem length_frames (ls : List (List UInt8)) : ls.length * 7 ≤ (frames ls).length := by
  induction ls with
  | nil => simp [frames]
  | cons a r ih =>
    rw [frames_cons, List.length_append, length_frame, List.length_cons]
    omega
theorem scan_one : ∀ (ls ls' : List (List UInt8)) (r r' : List UInt8), (∀ l ∈ ls, RecOk l) → (∀ l ∈ ls', RecOk l) → takeE r ≠ 0 → takeE r' ≠ 0 → frames ls ++ r = frames ls' ++ r' → ls = ls' ∧ r = r'
  | [], [], r, r', _, _, _, _, e => ⟨rfl, by simpa [frames] using e⟩
  | [], l :: ls', r, r', _, h', hr, _, e => by
    exfalso
    rw [frames_cons, List.append_assoc] at e
    have : r = frame l ++ (frames ls' ++ r') := by simpa [frames] using e
    apply hr
    rw [this]
    exact (take_frame l _ (h' l (by simp))).1
  | l :: ls, [], r, r', h, _, _, hr', e => by
    exfalso
    rw [frames_cons, List.append_assoc] at e
    have : r' = frame l ++ (frames ls ++ r) := by simpa [frames] using e.symm
    apply hr'
    rw [this]
    exact (take_frame l _ (h l (by simp))).1
  | l :: ls, l' :: ls', r, r', h, h', hr, hr', e => by
    rw [frames_cons, List.append_assoc, frames_cons, List.append_assoc] at e
    obtain ⟨_, a2, _⟩ := take_frame l (frames ls ++ r) (h l (by simp))
    obtain ⟨_, b2, _⟩ := take_frame l' (frames ls' ++ r') (h' l' (by simp))
    rw [e, b2] at a2
    subst a2
    rw [List.append_cancel_left_eq] at e
    obtain ⟨c1, c2⟩ := scan_one ls ls' r r' (fun x hx => h x (by simp [hx])) (fun x hx => h' x (by simp [hx])) hr hr' e
    exact ⟨by rw [c1], c2⟩
theorem IsScan.unique {b : List UInt8} {ls ls' : List (List UInt8)} {n n' : Nat} (h : IsScan b ls n) (h' : IsScan b ls' n') : ls = ls' ∧ n = n' := by
  obtain ⟨h1, h2, h3, h4⟩ := h
  obtain ⟨k1, k2, k3, k4⟩ := h'
  have e : frames ls ++ b.drop n = frames ls' ++ b.drop n' := by rw [← h2, ← k2, List.take_append_drop, List.take_append_drop]
  obtain ⟨e1, e2⟩ := scan_one ls ls' _ _ h3 k3 h4 k4 e
  refine ⟨e1, ?_⟩
  have := congrArg List.length e2
  rw [List.length_drop, List.length_drop] at this
  omega
/-- A scan under way. -/
def Scanning (b : List UInt8) (ls : List (List UInt8)) (n : Nat) : Prop := n ≤ b.length ∧ b.take n = frames ls ∧ (∀ l ∈ ls, RecOk l)
theorem Scanning.start (b : List UInt8) : Scanning b [] 0 := ⟨Nat.zero_le _, by simp [frames], by simp⟩
theorem Scanning.next {b : List UInt8} {ls : List (List UInt8)} {n : Nat} (h : Scanning b ls n) (ht : takeE (b.drop n) = 0) : Scanning b (ls ++ [rcd (b.drop n)]) (n + (7 + ln (b.drop n))) := by
  obtain ⟨h1, h2, h3⟩ := h
  obtain ⟨k1, k2, k3, k4⟩ := taken_is ht
  rw [List.length_drop] at k4
  refine ⟨by omega, ?_, ?_⟩
  · rw [List.take_add, h2, frames_snoc]
    congr 1
    obtain ⟨z1, z2, z3⟩ := takeE_zero.1 ht
    exact ((frame_begins z1 z2).2 z3).symm
  · intro l hl
    rw [List.mem_append] at hl
    rcases hl with hl | hl
    · exact h3 l hl
    · rw [List.mem_singleton] at hl
      rw [hl]; exact k1
theorem Scanning.done {b : List UInt8} {ls : List (List UInt8)} {n : Nat} (h : Scanning b ls n) (ht : takeE (b.drop n) ≠ 0) : IsScan b ls n := ⟨h.1, h.2.1, h.2.2, ht⟩
theorem Scanning.count {b : List UInt8} {ls : List (List UInt8)} {n : Nat} (h : Scanning b ls n) : ls.length * 7 ≤ n := by
  have := length_frames ls
  rw [← h.2.1, List.length_take] at this
  omega
theorem IsScan.frames_more (ls : List (List UInt8)) (r : List UInt8) (h : ∀ l ∈ ls, RecOk l) (hr : takeE r ≠ 0) : IsScan (frames ls ++ r) ls (frames ls).length := by
  refine ⟨by rw [List.length_append]; omega, ?_, h, ?_⟩
  · rw [List.take_left']; rfl
  · rw [List.drop_left']
    · exact hr
    · rfl
end Go.Proofs.Ytpfdlcogldbocaa

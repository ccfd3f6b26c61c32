/-
  What the program reads of bytes that may begin with a frame: the header, the stored sum, the sum of header and record. Condition: the bytes lie in memory.
-/
import Derived.Test.YtpfdlcogldbocaaSum
import Derived.Test.YtpfdlcogldbocaaFrame
import Derived.IntWalk
import Derived.Laws.BitsAllLaws
namespace Go.Proofs.Ytpfdlcogldbocaa
open Go.RowKit

theorem checksum_any (A B : Option Addr) (h l : List UInt8) (c1 c2 : Nat) (w : World) (hA : BytesAt w A h) (hB : BytesAt w B l) (h1 : h.length ≤ maxLen) (h2 : l.length ≤ maxLen) :
    Calls Try.prog 55 #[.slice A h.length c1, .slice B l.length c2] w fun e w' => e = .returned (.int .u32 (more 1 (h ++ l))) ∧ w = w' := by
  have H1 := Lib.hid (sum_any A h c1 w hA h1)
  have H2 := Lib.hid (more_any (more 1 h) (more_lt 1 h) B l c2 w hB h2)
  rw [more_append] at H2
  clear hA hB
  go_enter Try.func55, Try.ntmps55
  go_wp2_with fail
  go_at_call 61
  (with_reducible refine (H1.out).mono ?_)
  rintro e w' ⟨rfl, rfl⟩
  go_wp2_with fail
  go_at_call 60
  (with_reducible refine (H2.out).mono ?_)
  rintro e w' ⟨rfl, rfl⟩
  go_wp2_with fail
  go_ret
  exact ⟨rfl, rfl⟩

/-! ### the stored sum -/
def StoredRel (x3 x4 x5 x6 : Nat) (k s : Int) : Prop :=
  (k = 0 ∧ s = 0) ∨ (k = 1 ∧ s = x3) ∨ (k = 2 ∧ s = x3 + 256 * x4) ∨ (k = 3 ∧ s = x3 + 256 * x4 + 65536 * x5) ∨ (k = 4 ∧ s = x3 + 256 * x4 + 65536 * x5 + 16777216 * x6)

theorem or_low (a b k : Nat) (h : a < 2 ^ k) : a ||| (b * 2 ^ k) = a + 2 ^ k * b := by
  rw [Nat.or_comm, Nat.mul_comm, ← Nat.two_pow_add_eq_or_of_lt h, Nat.add_comm]

theorem or_pow (a b k p : Nat) (hp : p = 2 ^ k) (h : a < p) (hb : b < 256) (hs : 256 * p ≤ 4294967296) : bits .or .u32 (a : Int) ((b : Int) * (p : Int)) = (a : Int) + (p : Int) * (b : Int) := by
  have h2 : b * p < 4294967296 := Nat.lt_of_lt_of_le (Nat.mul_lt_mul_of_pos_right hb (by omega)) hs
  have e := u32_or_nat a (b * p) (by omega) h2
  rw [Int.natCast_mul] at e
  rw [e, hp, or_low a b k (by omega)]
  simp
theorem or_zero (b : Nat) (hb : b < 256) : bits .or .u32 0 (b : Int) = (b : Int) := by
  have e := u32_or_nat 0 b (by omega) (by omega)
  rw [Nat.zero_or] at e
  exact e

set_option maxRecDepth 100000 in
set_option maxHeartbeats 2000000 in
theorem stored_any (A : Option Addr) (b : List UInt8) (cap : Nat) (w : World) (hA : BytesAt w A b) (hl : 7 ≤ b.length) (hm : b.length ≤ maxLen) :
    Calls Try.prog 58 #[.slice A b.length cap] w fun e w' => e = .returned (.int .u32 (stored b)) ∧ w = w' := by
  have hc : ∀ i, i < 7 → ∃ g o, A = some ⟨g, o, none⟩ ∧ w.cell? ⟨g, o + i, none⟩ = some (.int .u8 (at0 b i)) := fun i hi => by
    have hi' : i < b.length := by omega
    obtain ⟨g, o, e, h⟩ := hA i b[i] (List.getElem?_eq_getElem hi')
    refine ⟨g, o, e, ?_⟩
    rw [h, at0_of (List.getElem?_eq_getElem hi')]
    rfl
  obtain ⟨g, o, rfl, h3⟩ := hc 3 (by omega)
  obtain ⟨g', o', e4, h4⟩ := hc 4 (by omega)
  cases e4
  obtain ⟨g', o', e4, h5⟩ := hc 5 (by omega)
  cases e4
  obtain ⟨g', o', e4, h6⟩ := hc 6 (by omega)
  cases e4
  have l3 := at0_lt b 3
  have l4 := at0_lt b 4
  have l5 := at0_lt b 5
  have l6 := at0_lt b 6
  have E : Hid (stored b = at0 b 3 + 256 * at0 b 4 + 65536 * at0 b 5 + 16777216 * at0 b 6) := Lib.hid rfl
  obtain ⟨x3, hx3⟩ : ∃ x, x = at0 b 3 := ⟨_, rfl⟩
  obtain ⟨x4, hx4⟩ : ∃ x, x = at0 b 4 := ⟨_, rfl⟩
  obtain ⟨x5, hx5⟩ : ∃ x, x = at0 b 5 := ⟨_, rfl⟩
  obtain ⟨x6, hx6⟩ : ∃ x, x = at0 b 6 := ⟨_, rfl⟩
  rw [← hx3] at h3 l3 E
  rw [← hx4] at h4 l4 E
  rw [← hx5] at h5 l5 E
  rw [← hx6] at h6 l6 E
  unfold maxLen at hm
  obtain ⟨S, eS⟩ : ∃ S, S = stored b := ⟨_, rfl⟩
  rw [← eS] at E ⊢
  clear hc hA hx3 hx4 hx5 hx6 eS
  go_enter Try.func58, Try.ntmps58
  go_wp2
  go_loop [3, 5] (fun s k => ∃ (s' k' : Int), StoredRel x3 x4 x5 x6 k' s' ∧ s = .int .u32 s' ∧ k = .int .i64 k') (fun _ k => 4 - (intOf k).toNat)
  case atStart => exact ⟨_, _, .inl ⟨rfl, rfl⟩, rfl, rfl⟩
  case round =>
    obtain ⟨s', k', hr, rfl, rfl⟩ := hrel
    rcases hr with ⟨rfl, rfl⟩ | ⟨rfl, rfl⟩ | ⟨rfl, rfl⟩ | ⟨rfl, rfl⟩ | ⟨rfl, rfl⟩
    · have q := Lib.hid (or_zero x3 l3)
      go_wp2
      exact ⟨⟨_, _, .inr (.inl ⟨rfl, rfl⟩), by rw [q.out], rfl⟩, by simp [intOf]⟩
    · have q := Lib.hid (or_pow x3 x4 8 256 rfl l3 l4 (by omega))
      go_wp2
      exact ⟨⟨_, _, .inr (.inr (.inl ⟨rfl, rfl⟩)), by exact congrArg (Value.int .u32) q.out, rfl⟩, by simp [intOf]⟩
    · have q := Lib.hid (or_pow (x3 + 256 * x4) x5 16 65536 rfl (by omega) l5 (by omega))
      go_wp2
      exact ⟨⟨_, _, .inr (.inr (.inr (.inl ⟨rfl, rfl⟩))), by rw [Int.natCast_add, Int.natCast_mul] at q; exact congrArg (Value.int .u32) q.out, rfl⟩, by simp [intOf]⟩
    · have q := Lib.hid (or_pow (x3 + 256 * x4 + 65536 * x5) x6 24 16777216 rfl (by omega) l6 (by omega))
      go_wp2
      exact ⟨⟨_, _, .inr (.inr (.inr (.inr ⟨rfl, rfl⟩))), by rw [Int.natCast_add, Int.natCast_mul, Int.natCast_add, Int.natCast_mul] at q; exact congrArg (Value.int .u32) q.out, rfl⟩, by simp [intOf]⟩
    · go_wp2
      go_ret
      exact ⟨by rw [E.out]; go_num, rfl⟩

/-! ### the header -/
def HdrRel (b : List UInt8) (less a : Int) : Prop :=
  (a = 0 ∧ less = 0) ∨ (a = 1 ∧ less = 0 ∧ 1 ≤ b.length ∧ at0 b 0 = 167) ∨ (a = 2 ∧ less = (at0 b 1 : Int) ∧ 2 ≤ b.length ∧ at0 b 0 = 167) ∨ (a = 3 ∧ less = (at0 b 1 : Int) + 256 * (at0 b 2 : Int) ∧ 3 ≤ b.length ∧ at0 b 0 = 167 ∧ at0 b 2 < 16)

theorem hdr_ok {b : List UInt8} {less : Int} (h : HdrRel b less 3) : hdrE b = 0 ∧ less + 1 = (ln b : Int) := by
  rcases h with ⟨h, _⟩ | ⟨h, _⟩ | ⟨h, _⟩ | ⟨_, h1, h2, h3, h4⟩
  · omega
  · omega
  · omega
  · refine ⟨hdrE_zero.2 ⟨h2, h3, h4⟩, ?_⟩
    unfold ln
    omega
theorem hdr_short {b : List UInt8} {less a : Int} (h : HdrRel b less a) (ha : a ≠ 3) (he : a = (b.length : Int)) : hdrE b = 42 := by
  unfold hdrE
  rcases h with ⟨rfl, _⟩ | ⟨rfl, _, h1, h2⟩ | ⟨rfl, _, h1, h2⟩ | ⟨rfl, _⟩
  · rw [if_neg (by omega), if_pos (by omega)]
  · rw [if_neg (by omega), if_pos (by omega)]
  · rw [if_neg (by omega), if_pos (by omega)]
  · omega

/-- What the header is answered: the length, or the error. -/
def HdrAns (b : List UInt8) (w : World) (e : Ending) (w' : World) : Prop :=
  e = .returned (.tuple #[.int .i64 (if hdrE b = 0 then (ln b : Int) else 0), .int .i64 (hdrE b : Int)]) ∧ w = w'

set_option maxRecDepth 100000 in
set_option maxHeartbeats 2000000 in
theorem length_any (A : Option Addr) (b : List UInt8) (cap : Nat) (w : World) (hA : BytesAt w A b) (hm : b.length ≤ maxLen) :
    Calls Try.prog 57 #[.slice A b.length cap] w (HdrAns b w) := by
  have hc : ∀ i, i < b.length → ∃ g o, A = some ⟨g, o, none⟩ ∧ w.cell? ⟨g, o + i, none⟩ = some (.int .u8 (at0 b i)) := fun i hi => by
    obtain ⟨g, o, e, h⟩ := hA i b[i] (List.getElem?_eq_getElem hi)
    refine ⟨g, o, e, ?_⟩
    rw [h, at0_of (List.getElem?_eq_getElem hi)]
    rfl
  have HC := Lib.hid hc
  unfold maxLen at hm
  clear hA hc
  go_enter Try.func57, Try.ntmps57
  go_wp2
  refine wp_scope_again 0 (fun a' w' => w = w' ∧ ∃ (less at_ : Int) (u6 u7 u8 u9 u10 u11 u12 u13 u14 u15 u16 u17 u18 u19 u20 u21 u22 u23 u24 u25 u26 u27 u28 u29 u30 u31 u32 u33 u34 u35 u36 u37 u38 u39 u40 u41 u42 u43 u44 u45 u46 u47 u48 u49 u50 : Value), HdrRel b less at_ ∧ a' = { tmps := #[.slice A b.length cap, undef, .int .i64 0, .int .i64 0, .int .i64 less, .int .i64 at_, u6, u7, u8, u9, u10, u11, u12, u13, u14, u15, u16, u17, u18, u19, u20, u21, u22, u23, u24, u25, u26, u27, u28, u29, u30, u31, u32, u33, u34, u35, u36, u37, u38, u39, u40, u41, u42, u43, u44, u45, u46, u47, u48, u49, u50], defers := [] }) (fun a' _ => 3 - (intOf (a'.tmps.getD 5 undef)).toNat) rfl ?_ ?_
  · intro hp
    have HP := Lib.hid hp
    clear hp
    go_wp2
    go_step3
    simp only [Exit.then]
    rename_i hK
    exact hK _ _ (HP.out _ _ ⟨rfl, _, _, _, _, _, _, _, _, _, _, _, _, _, _, _, _, _, _, _, _, _, _, _, _, _, _, _, _, _, _, _, _, _, _, _, _, _, _, _, _, _, _, _, _, _, _, _, .inl ⟨rfl, rfl⟩, rfl⟩)
  · rintro a' w' ⟨rfl, less, at_, u6, u7, u8, u9, u10, u11, u12, u13, u14, u15, u16, u17, u18, u19, u20, u21, u22, u23, u24, u25, u26, u27, u28, u29, u30, u31, u32, u33, u34, u35, u36, u37, u38, u39, u40, u41, u42, u43, u44, u45, u46, u47, u48, u49, u50, hr, rfl⟩
    have HR := Lib.hid hr
    rcases hr with ⟨rfl, rfl⟩ | ⟨rfl, rfl, h1, h2⟩ | ⟨rfl, rfl, h1, h2⟩ | ⟨rfl, rfl, h1, h2, h3⟩
    · by_cases h0 : b.length = 0
      · have q := Lib.hid (hdr_short HR.out (by omega) (by omega))
        have e0 : ((0 : Int) == (b.length : Int)) = true := by simp; omega
        go_wp2
        simp only [Exit.jump]
        go_ret2
        exact ⟨by rw [q.out]; rfl, rfl⟩
      · have e0 : ((0 : Int) == (b.length : Int)) = false := by simp; omega
        obtain ⟨g, o, rfl, hcell⟩ := HC.out 0 (by omega)
        rw [Nat.add_zero] at hcell
        have hlt := at0_lt b 0
        by_cases hx : at0 b 0 = 167
        · have q : Hid (HdrRel b 0 1) := Lib.hid (.inr (.inl ⟨rfl, rfl, by omega, hx⟩))
          obtain ⟨x, ex⟩ : ∃ x, x = at0 b 0 := ⟨_, rfl⟩
          rw [← ex] at hcell hx hlt
          have hx1 : ((x : Int) != 167) = false := by simp; omega
          clear ex hx
          go_wp2
          go_step3
          exact ⟨rfl, ⟨rfl, _, _, _, _, _, _, _, _, _, _, _, _, _, _, _, _, _, _, _, _, _, _, _, _, _, _, _, _, _, _, _, _, _, _, _, _, _, _, _, _, _, _, _, _, _, _, _, q.out, rfl⟩, by simp [intOf]⟩
        · have q : Hid (hdrE b = 41) := Lib.hid (by unfold hdrE; rw [if_pos (.inl ⟨by omega, hx⟩)])
          obtain ⟨x, ex⟩ : ∃ x, x = at0 b 0 := ⟨_, rfl⟩
          rw [← ex] at hcell hx hlt
          have hx1 : ((x : Int) != 167) = true := by simp; omega
          clear ex hx
          go_wp2
          simp only [Exit.jump]
          go_ret2
          exact ⟨by rw [q.out]; rfl, rfl⟩
    · by_cases h0 : b.length = 1
      · have q := Lib.hid (hdr_short HR.out (by omega) (by omega))
        have e0 : ((1 : Int) == (b.length : Int)) = true := by simp; omega
        go_wp2
        simp only [Exit.jump]
        go_ret2
        exact ⟨by rw [q.out]; rfl, rfl⟩
      · have e0 : ((1 : Int) == (b.length : Int)) = false := by simp; omega
        obtain ⟨g, o, rfl, hcell⟩ := HC.out 1 (by omega)
        have hlt := at0_lt b 1
        have q : Hid (HdrRel b (at0 b 1 : Int) 2) := Lib.hid (.inr (.inr (.inl ⟨rfl, rfl, by omega, h2⟩)))
        obtain ⟨x, ex⟩ : ∃ x, x = at0 b 1 := ⟨_, rfl⟩
        rw [← ex] at hcell hlt q
        clear ex h2
        go_wp2
        go_step3
        exact ⟨rfl, ⟨rfl, _, _, _, _, _, _, _, _, _, _, _, _, _, _, _, _, _, _, _, _, _, _, _, _, _, _, _, _, _, _, _, _, _, _, _, _, _, _, _, _, _, _, _, _, _, _, _, q.out, rfl⟩, by simp [intOf]⟩
    · by_cases h0 : b.length = 2
      · have q := Lib.hid (hdr_short HR.out (by omega) (by omega))
        have e0 : ((2 : Int) == (b.length : Int)) = true := by simp; omega
        go_wp2
        simp only [Exit.jump]
        go_ret2
        exact ⟨by rw [q.out]; rfl, rfl⟩
      · have e0 : ((2 : Int) == (b.length : Int)) = false := by simp; omega
        obtain ⟨g, o, rfl, hcell⟩ := HC.out 2 (by omega)
        have hlt := at0_lt b 2
        have hlt1 := at0_lt b 1
        by_cases hx : at0 b 2 < 16
        · have q : Hid (HdrRel b ((at0 b 1 : Int) + 256 * (at0 b 2 : Int)) 3) := Lib.hid (.inr (.inr (.inr ⟨rfl, rfl, by omega, h2, hx⟩)))
          obtain ⟨x, ex⟩ : ∃ x, x = at0 b 2 := ⟨_, rfl⟩
          obtain ⟨y, ey⟩ : ∃ y, y = at0 b 1 := ⟨_, rfl⟩
          rw [← ex] at hcell hx hlt q
          rw [← ey] at hlt1 q HR ⊢
          have hx1 : (x : Int) ≤ 15 := by omega
          clear ex ey h2 hx
          go_wp2
          go_step3
          exact ⟨rfl, ⟨rfl, _, _, _, _, _, _, _, _, _, _, _, _, _, _, _, _, _, _, _, _, _, _, _, _, _, _, _, _, _, _, _, _, _, _, _, _, _, _, _, _, _, _, _, _, _, _, _, by have := q.out; rw [show (y : Int) + 256 * (x : Int) = (y : Int) + (x : Int) * 256 by omega] at this; exact this, rfl⟩, by simp [intOf]⟩
        · have q : Hid (hdrE b = 41) := Lib.hid (by unfold hdrE; rw [if_pos (.inr ⟨by omega, by omega⟩)])
          obtain ⟨x, ex⟩ : ∃ x, x = at0 b 2 := ⟨_, rfl⟩
          rw [← ex] at hcell hx hlt
          have hx1 : ¬ (x : Int) ≤ 15 := by omega
          clear ex h2 hx
          go_wp2
          simp only [Exit.jump]
          go_ret2
          exact ⟨by rw [q.out]; rfl, rfl⟩
    · obtain ⟨q1, q2⟩ := hdr_ok HR.out
      have Q1 := Lib.hid q1
      have Q2 := Lib.hid q2
      have l1 := at0_lt b 1
      have l2 := at0_lt b 2
      obtain ⟨x, ex⟩ : ∃ x, x = at0 b 2 := ⟨_, rfl⟩
      obtain ⟨y, ey⟩ : ∃ y, y = at0 b 1 := ⟨_, rfl⟩
      rw [← ex] at l2 Q2 ⊢
      rw [← ey] at l1 Q2 ⊢
      clear q1 q2 ex ey h2 h3
      go_wp2
      simp only [Exit.jump]
      go_ret2
      exact ⟨by rw [Q1.out, ← Q2.out]; rfl, rfl⟩
end Go.Proofs.Ytpfdlcogldbocaa

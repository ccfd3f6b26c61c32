/-
  The document's braces, labels and depth, over commands in memory: which brace closes one, how many stand open, where a label stands. Condition: at most a million commands.
-/
import Derived.Test.YthlkmlphbepnpaaPg11
namespace Go.Proofs.Ythlkmlphbepnpaa
open Go.RowKit Go.Deep

theorem row_name {l : List CM} {A : Option Addr} {w : World} (hr : RawAt w A (cmV l)) {i : Nat} {c : CM} (hc : l[i]? = some c) : ∃ g o, A = some ⟨g, o, none⟩ ∧ w.cell? ⟨g, o + i * 42 + 1, none⟩ = some (.int .u8 c.name) ∧ w.cell? ⟨g, o + i * 42 + 25, none⟩ = some (.string c.text) ∧ w.cell? ⟨g, o + i * 42, none⟩ = some (.complex .f64 c.re c.im) := by
  obtain ⟨g, o, e, h⟩ := raw_elem CM.len (by omega) hr hc
  exact ⟨g, o, e, h 1 _ rfl, h 25 _ rfl, h 0 _ rfl⟩
/-- What closed answers. -/
def ClsR (N : Nat → Int) (n i : Nat) (r : Int) : Prop := (∃ j, j < n ∧ Closes N i j ∧ r = (j : Int)) ∨ ((∀ j, j < n → ¬ Closes N i j) ∧ r = -1)
/-- What holds where a round of closed begins. -/
structure ClJ (N : Nat → Int) (n i : Nat) (s0 : List Nat) (k p : Nat) : Prop where
  low : i < k
  high : k ≤ n
  st : ∃ L, stk N k = some (L ++ i :: s0) ∧ p = L.length
theorem ClJ.few {N : Nat → Int} {n i : Nat} {s0 : List Nat} {k p : Nat} (h : ClJ N n i s0 k p) : p ≤ n := by
  obtain ⟨L, h1, h2⟩ := h.st
  have := stk_mem h1
  have h3 := few_below _ k this.1 fun b hb => (this.2 b hb).1
  simp only [List.length_append, List.length_cons] at h3
  have := h.high
  omega
theorem ClJ.opened {N : Nat → Int} {n i : Nat} {s0 : List Nat} {k p : Nat} (h : ClJ N n i s0 k p) (hk : k < n) (h1 : N k = 123) : ClJ N n i s0 (k + 1) (p + 1) := by
  obtain ⟨L, h2, h3⟩ := h.st
  exact ⟨by have := h.low; omega, hk, k :: L, by rw [stk_open h2 h1]; rfl, by rw [List.length_cons, h3]⟩
theorem ClJ.shut {N : Nat → Int} {n i : Nat} {s0 : List Nat} {k p : Nat} (h : ClJ N n i s0 k (p + 1)) (hk : k < n) (h1 : N k = 125) : ClJ N n i s0 (k + 1) p := by
  obtain ⟨L, h2, h3⟩ := h.st
  cases L with
  | nil => simp at h3
  | cons a L => exact ⟨by have := h.low; omega, hk, L, stk_shut h2 h1, by simpa using h3⟩
theorem ClJ.closes {N : Nat → Int} {n i : Nat} {s0 : List Nat} {k : Nat} (h : ClJ N n i s0 k 0) (h1 : N k = 125) : Closes N i k := by
  obtain ⟨L, h2, h3⟩ := h.st
  cases L with
  | nil => exact ⟨h1, s0, h2⟩
  | cons a L => simp at h3
theorem ClJ.other {N : Nat → Int} {n i : Nat} {s0 : List Nat} {k p : Nat} (h : ClJ N n i s0 k p) (hk : k < n) (h1 : N k ≠ 123) (h2 : N k ≠ 125) : ClJ N n i s0 (k + 1) p := by
  obtain ⟨L, h3, h4⟩ := h.st
  exact ⟨by have := h.low; omega, hk, L, stk_other h3 h1 h2, h4⟩
theorem ClJ.done {N : Nat → Int} {n i : Nat} {s0 : List Nat} {p : Nat} (h : ClJ N n i s0 n p) : ∀ j, j < n → ¬ Closes N i j := by
  intro j hj hc
  obtain ⟨L, h3, h4⟩ := h.st
  obtain ⟨t, ht, hn⟩ := closes_gone hc
  exact stk_gone ht (by have := (closes_lt hc).1; omega) hn n hj _ h3 (by simp)
set_option maxRecDepth 100000 in
set_option maxHeartbeats 4000000 in
theorem closed_is {l : List CM} {cl i : Nat} {A : Option Addr} {w : World} {S : List Nat} (hr : RawAt w A (cmV l)) (hl : l.length ≤ 1048576) (hi : i < l.length) (h123 : cN l i = 123) (hS : stk (cN l) l.length = some S) :
    Calls Try.prog 22 #[.slice A l.length cl, .int .i64 (i : Int)] w fun e w' => ∃ r, e = .returned (.int .i64 r) ∧ ClsR (cN l) l.length i r ∧ w' = w := by
  have HR := Lib.hid hr
  have HL := Lib.hid hl
  obtain ⟨s0, hs0⟩ := stk_back hS i (by omega)
  have HS := Lib.hid (show ClJ (cN l) l.length i s0 (i + 1) 0 from ⟨by omega, hi, [], stk_open hs0 h123, rfl⟩)
  have hw0 : IntKind.i64.wrap ((i : Int) + 1) = ((i + 1 : Nat) : Int) := by rw [IntWalk.i64_in _ (by omega)]; omega
  obtain ⟨i1, hi1⟩ : ∃ i1, i1 = i + 1 := ⟨_, rfl⟩
  rw [← hi1] at hw0 HS
  clear hr hl hi h123 hS hs0 hi1
  go_enter Try.func22, Try.ntmps22
  go_wp2_with fail
  go_loopw [5, 6] (fun ov kv wz => ∃ p k : Nat, ov = .int .i64 (p : Int) ∧ kv = .int .i64 (k : Int) ∧ Hid (ClJ (cN l) l.length i s0 k p) ∧ wz = w) (fun _ kv _ => l.length + 1 - (intOf kv).toNat)
  case atStart => exact ⟨0, i1, rfl, rfl, HS, rfl⟩
  case round =>
    obtain ⟨p, k, rfl, rfl, HJ, rfl⟩ := hrel
    have hle := HJ.out.high
    have hl := HL.out
    by_cases hk : k < l.length
    case neg =>
      have hd : decide ((k : Int) < (l.length : Int)) = false := decide_eq_false (by omega)
      have hdn : decide (k < l.length) = false := decide_eq_false hk
      have hll : (l.length : Int) ≤ (k : Int) := by omega
      have HE := Lib.hid (show ClsR (cN l) l.length i (-1) from .inr ⟨(show ClJ (cN l) l.length i s0 l.length p by have := HJ.out; rwa [show k = l.length by omega] at this).done, rfl⟩)
      clear hle hk hl
      go_wp2_with fail
      go_ret
      exact ⟨_, rfl, HE.out, rfl⟩
    obtain ⟨c, hc⟩ : ∃ c, l[k]? = some c := ⟨l[k], by simp [hk]⟩
    obtain ⟨g, o, rfl, kN, kT, _⟩ := row_name HR.out hc
    have hki : (k : Int) < (l.length : Int) := by omega
    have hd : decide ((k : Int) < (l.length : Int)) = true := decide_eq_true hki
    have hdn : decide (k < l.length) = true := decide_eq_true hk
    have hwk : IntKind.i64.wrap ((k : Int) + 1) = ((k + 1 : Nat) : Int) := by rw [IntWalk.i64_in _ (by omega)]; omega
    obtain ⟨k1, hk1⟩ : ∃ k1, k1 = k + 1 := ⟨_, rfl⟩
    rw [← hk1] at hwk
    have HK1 := Lib.hid (And.intro hk1 hk)
    have hnm := cN_at hc
    have hpf := HJ.out.few
    by_cases h1 : c.name = 123
    · have g1 : (c.name == 123) = true := by rw [h1]; rfl
      have g2 : (c.name == 125) = false := by rw [h1]; rfl
      have hp1 : IntKind.i64.wrap ((p : Int) + 1) = ((p + 1 : Nat) : Int) := by rw [IntWalk.i64_in _ (by omega)]; omega
      have HN := Lib.hid (show ClJ (cN l) l.length i s0 k1 (p + 1) by rw [hk1]; exact HJ.out.opened hk (by rw [hnm]; exact h1))
      obtain ⟨p1, hp1e⟩ : ∃ p1, p1 = p + 1 := ⟨_, rfl⟩
      rw [← hp1e] at hp1 HN
      clear hle hk hl hk1 hc hnm hpf h1 hp1e
      go_wp2_with fail
      go_roundw
      case rel => exact ⟨p1, k1, rfl, rfl, HN, trivial⟩
      case measure => have := HK1.out; simp [intOf]; omega
    · have g1 : (c.name == 123) = false := by rw [beq_eq_false_iff_ne]; exact h1
      by_cases h2 : c.name = 125
      · have g2 : (c.name == 125) = true := by rw [h2]; rfl
        by_cases h0 : p = 0
        · have HE := Lib.hid (show ClsR (cN l) l.length i (k : Int) from .inl ⟨k, hk, (show ClJ (cN l) l.length i s0 k 0 by have := HJ.out; rwa [h0] at this).closes (by rw [hnm]; exact h2), rfl⟩)
          have e0 : ((p : Int) == 0) = true := by rw [h0]; rfl
          have e0n : (p == 0) = true := by rw [h0]; rfl
          clear hle hk hl hk1 hc hnm hpf h1 h2 h0
          go_wp2_with fail
          go_ret
          exact ⟨_, rfl, HE.out, rfl⟩
        · obtain ⟨p1, hp1e⟩ : ∃ p1, p = p1 + 1 := ⟨p - 1, by omega⟩
          have e0 : ((p : Int) == 0) = false := by rw [beq_eq_false_iff_ne]; omega
          have e0n : (p == 0) = false := by rw [beq_eq_false_iff_ne]; omega
          have hp1 : IntKind.i64.wrap ((p : Int) - 1) = (p1 : Int) := by rw [IntWalk.i64_in _ (by omega)]; omega
          have HN := Lib.hid (show ClJ (cN l) l.length i s0 k1 p1 by rw [hk1]; exact (show ClJ (cN l) l.length i s0 k (p1 + 1) by have := HJ.out; rwa [hp1e] at this).shut hk (by rw [hnm]; exact h2))
          clear hle hk hl hk1 hc hnm hpf h1 h2 h0 hp1e
          go_wp2_with fail
          go_roundw
          case rel => exact ⟨p1, k1, rfl, rfl, HN, trivial⟩
          case measure => have := HK1.out; simp [intOf]; omega
      · have g2 : (c.name == 125) = false := by rw [beq_eq_false_iff_ne]; exact h2
        have HN := Lib.hid (show ClJ (cN l) l.length i s0 k1 p by rw [hk1]; exact HJ.out.other hk (by rw [hnm]; exact h1) (by rw [hnm]; exact h2))
        clear hle hk hl hk1 hc hnm hpf h1 h2
        go_wp2_with fail
        go_roundw
        case rel => exact ⟨p, k1, rfl, rfl, HN, trivial⟩
        case measure => have := HK1.out; simp [intOf]; omega
set_option maxRecDepth 100000 in
set_option maxHeartbeats 4000000 in
theorem opens_is {l : List CM} {cl i : Nat} {A : Option Addr} {w : World} {S : List Nat} (hr : RawAt w A (cmV l)) (hl : l.length ≤ 1048576) (hi : i ≤ l.length) (hS : stk (cN l) i = some S) :
    Calls Try.prog 31 #[.slice A l.length cl, .int .i64 (i : Int)] w fun e w' => e = .returned (.int .i64 (S.length : Int)) ∧ w' = w := by
  have HR := Lib.hid hr
  have HL := Lib.hid (And.intro hl hi)
  have HS := Lib.hid hS
  clear hr hl hi hS
  go_enter Try.func31, Try.ntmps31
  go_wp2_with fail
  go_loopw [5, 6] (fun ov kv wz => ∃ (k : Nat) (s : List Nat), ov = .int .i64 (s.length : Int) ∧ kv = .int .i64 (k : Int) ∧ Hid (k ≤ i ∧ stk (cN l) k = some s) ∧ wz = w) (fun _ kv _ => i + 1 - (intOf kv).toNat)
  case atStart => exact ⟨0, [], rfl, rfl, Lib.hid ⟨Nat.zero_le _, rfl⟩, rfl⟩
  case round =>
    obtain ⟨k, s, rfl, rfl, HJ, rfl⟩ := hrel
    have hle := HJ.out.1
    obtain ⟨hl, hil⟩ := HL.out
    have hmem := stk_mem HJ.out.2
    have hsl := few_below _ k hmem.1 fun b hb => (hmem.2 b hb).1
    by_cases hkj : k < i
    case neg =>
      have hd : decide ((k : Int) < (i : Int)) = false := decide_eq_false (by omega)
      have hdn : decide (k < i) = false := decide_eq_false hkj
      have hll : (i : Int) ≤ (k : Int) := by omega
      have HE := Lib.hid (show s = S by have h := HJ.out.2; rw [show k = i by omega, HS.out] at h; injection h with h; exact h.symm)
      clear hle hkj hl hil hmem hsl
      go_wp2_with fail
      go_ret
      exact ⟨by rw [HE.out]; rfl, rfl⟩
    have hk : k < l.length := by omega
    have hkii : (k : Int) < (i : Int) := by omega
    have e1 : decide ((k : Int) < (i : Int)) = true := decide_eq_true hkii
    have e1n : decide (k < i) = true := decide_eq_true hkj
    obtain ⟨c, hc⟩ : ∃ c, l[k]? = some c := ⟨l[k], by simp [hk]⟩
    obtain ⟨g, o, rfl, kN, kT, _⟩ := row_name HR.out hc
    have hki : (k : Int) < (l.length : Int) := by omega
    have hd : decide ((k : Int) < (l.length : Int)) = true := decide_eq_true hki
    have hdn : decide (k < l.length) = true := decide_eq_true hk
    have hwk : IntKind.i64.wrap ((k : Int) + 1) = ((k + 1 : Nat) : Int) := by rw [IntWalk.i64_in _ (by omega)]; omega
    obtain ⟨k1, hk1⟩ : ∃ k1, k1 = k + 1 := ⟨_, rfl⟩
    rw [← hk1] at hwk
    have HK1 := Lib.hid (And.intro hk1 hk)
    have hnm := cN_at hc
    obtain ⟨s1, hs1⟩ := stk_back HS.out (k + 1) hkj
    obtain ⟨s', hs', hcase⟩ := stk_step hs1
    rw [HJ.out.2] at hs'
    injection hs' with hs'
    subst hs'
    have HN := Lib.hid (show k1 ≤ i ∧ stk (cN l) k1 = some s1 by rw [hk1]; exact ⟨hkj, hs1⟩)
    have HI := Lib.hid hkj
    rw [hnm] at hcase
    obtain ⟨p, hp⟩ : ∃ p, p = s.length := ⟨_, rfl⟩
    obtain ⟨p1, hp1⟩ : ∃ p1, p1 = s1.length := ⟨_, rfl⟩
    rw [← hp]
    have HP1 := Lib.hid hp1
    rcases hcase with ⟨h1, h3⟩ | ⟨h2, b, h3⟩ | ⟨h1, h2, h3⟩
    · have g1 : (c.name == 123) = true := by rw [h1]; rfl
      have g2 : (c.name == 125) = false := by rw [h1]; rfl
      have e2 : p1 = p + 1 := by rw [hp1, hp, h3]; rfl
      have hwp : IntKind.i64.wrap ((p : Int) + 1) = (p1 : Int) := by rw [IntWalk.i64_in _ (by omega)]; omega
      have q1 : decide ((p1 : Int) < 0) = false := decide_eq_false (by omega)
      have q2 : ¬ (p1 : Int) < 0 := by omega
      clear hle hkj hl hil hmem hsl hk hk1 hc hnm hs1 h1 h3 e2 hp hp1
      go_wp2_with fail
      go_roundw
      case rel => exact ⟨k1, s1, by rw [HP1.out], rfl, HN, trivial⟩
      case measure => have := HK1.out; have := HI.out; simp [intOf]; omega
    · have g1 : (c.name == 123) = false := by rw [h2]; rfl
      have g2 : (c.name == 125) = true := by rw [h2]; rfl
      have e2 : p = p1 + 1 := by rw [hp1, hp, h3]; rfl
      have hwp : IntKind.i64.wrap ((p : Int) - 1) = (p1 : Int) := by rw [IntWalk.i64_in _ (by omega)]; omega
      have q1 : decide ((p1 : Int) < 0) = false := decide_eq_false (by omega)
      have q2 : ¬ (p1 : Int) < 0 := by omega
      clear hle hkj hl hil hmem hsl hk hk1 hc hnm hs1 h2 h3 e2 hp hp1
      go_wp2_with fail
      go_roundw
      case rel => exact ⟨k1, s1, by rw [HP1.out], rfl, HN, trivial⟩
      case measure => have := HK1.out; have := HI.out; simp [intOf]; omega
    · have g1 : (c.name == 123) = false := by rw [beq_eq_false_iff_ne]; exact h1
      have g2 : (c.name == 125) = false := by rw [beq_eq_false_iff_ne]; exact h2
      have e2 : p = p1 := by rw [hp1, hp, h3]
      have q1 : decide ((p : Int) < 0) = false := decide_eq_false (by omega)
      have q2 : ¬ (p : Int) < 0 := by omega
      have HPP := Lib.hid (show p = s1.length by rw [e2, hp1])
      clear hle hkj hl hil hmem hsl hk hk1 hc hnm hs1 h1 h2 h3 e2 hp hp1
      go_wp2_with fail
      go_roundw
      case rel => exact ⟨k1, s1, by rw [HPP.out], rfl, HN, trivial⟩
      case measure => have := HK1.out; have := HI.out; simp [intOf]; omega
/-- What label answers: the first label with a text. -/
def LabR (N : Nat → Int) (T : Nat → ByteArray) (n : Nat) (t : ByteArray) (r : Int) : Prop := (∃ k, k < n ∧ N k = 58 ∧ T k = t ∧ r = (k : Int) ∧ ∀ j, j < k → N j = 58 → T j ≠ t) ∨ ((∀ j, j < n → N j = 58 → T j ≠ t) ∧ r = -1)
theorem txt_neq {s t : ByteArray} (h : s ≠ t) : (s.toList == t.toList) = false := by
  rw [ByteArray.toList_eq, ByteArray.toList_eq, beq_eq_false_iff_ne]
  exact fun e => h (by rw [← txt_of s, ← txt_of t, e])
set_option maxRecDepth 100000 in
set_option maxHeartbeats 4000000 in
theorem label_is {l : List CM} {cl : Nat} {A : Option Addr} {w : World} (t : ByteArray) (hr : RawAt w A (cmV l)) (hl : l.length ≤ 1048576) :
    Calls Try.prog 23 #[.slice A l.length cl, .string t] w fun e w' => ∃ r, e = .returned (.int .i64 r) ∧ LabR (cN l) (cT l) l.length t r ∧ w' = w := by
  have HR := Lib.hid hr
  have HL := Lib.hid hl
  clear hr hl
  go_enter Try.func23, Try.ntmps23
  go_wp2_with fail
  go_loopw [5] (fun kv wz => ∃ k : Nat, kv = .int .i64 (k : Int) ∧ Hid (k ≤ l.length ∧ ∀ j, j < k → cN l j = 58 → cT l j ≠ t) ∧ wz = w) (fun kv _ => l.length + 1 - (intOf kv).toNat)
  case atStart => exact ⟨0, rfl, Lib.hid ⟨Nat.zero_le _, fun j hj => absurd hj (Nat.not_lt_zero j)⟩, rfl⟩
  case round =>
    obtain ⟨k, rfl, HJ, rfl⟩ := hrel
    have hle := HJ.out.1
    have hl := HL.out
    by_cases hk : k < l.length
    case neg =>
      have hd : decide ((k : Int) < (l.length : Int)) = false := decide_eq_false (by omega)
      have hdn : decide (k < l.length) = false := decide_eq_false hk
      have hll : (l.length : Int) ≤ (k : Int) := by omega
      have HE := Lib.hid (show LabR (cN l) (cT l) l.length t (-1) from .inr ⟨fun j hj => HJ.out.2 j (by omega), rfl⟩)
      clear hle hk hl
      go_wp2_with fail
      go_ret
      exact ⟨_, rfl, HE.out, rfl⟩
    obtain ⟨c, hc⟩ : ∃ c, l[k]? = some c := ⟨l[k], by simp [hk]⟩
    obtain ⟨g, o, rfl, kN, kT, _⟩ := row_name HR.out hc
    have hki : (k : Int) < (l.length : Int) := by omega
    have hd : decide ((k : Int) < (l.length : Int)) = true := decide_eq_true hki
    have hdn : decide (k < l.length) = true := decide_eq_true hk
    have hwk : IntKind.i64.wrap ((k : Int) + 1) = ((k + 1 : Nat) : Int) := by rw [IntWalk.i64_in _ (by omega)]; omega
    obtain ⟨k1, hk1⟩ : ∃ k1, k1 = k + 1 := ⟨_, rfl⟩
    rw [← hk1] at hwk
    have HK1 := Lib.hid (And.intro hk1 hk)
    have hnm := cN_at hc
    have htx := cT_at hc
    by_cases h1 : c.name = 58
    · have g1 : (c.name == 58) = true := by rw [h1]; rfl
      by_cases h2 : c.text = t
      · have HE := Lib.hid (show LabR (cN l) (cT l) l.length t (k : Int) from .inl ⟨k, hk, by rw [hnm]; exact h1, by rw [htx]; exact h2, rfl, HJ.out.2⟩)
        rw [h2] at kT
        clear hle hk hl hk1 hc hnm htx h1 h2
        go_wp2_with fail
        go_ret
        exact ⟨_, rfl, HE.out, rfl⟩
      · have g2 := txt_neq h2
        have HN := Lib.hid (show k1 ≤ l.length ∧ ∀ j, j < k1 → cN l j = 58 → cT l j ≠ t by
          rw [hk1]
          refine ⟨hk, fun j hj h58 => ?_⟩
          rcases Nat.lt_or_ge j k with h | h
          · exact HJ.out.2 j h h58
          · obtain rfl : j = k := by omega
            rw [htx]
            exact h2)
        clear hle hk hl hk1 hc hnm htx h1 h2
        go_wp2_with fail
        go_roundw
        case rel => exact ⟨k1, rfl, HN, trivial⟩
        case measure => have := HK1.out; simp [intOf]; omega
    · have g1 : (c.name == 58) = false := by rw [beq_eq_false_iff_ne]; exact h1
      have n1 : ¬ c.name = 58 := h1
      have HN := Lib.hid (show k1 ≤ l.length ∧ ∀ j, j < k1 → cN l j = 58 → cT l j ≠ t by
        rw [hk1]
        refine ⟨hk, fun j hj h58 => ?_⟩
        rcases Nat.lt_or_ge j k with h | h
        · exact HJ.out.2 j h h58
        · obtain rfl : j = k := by omega
          rw [hnm] at h58
          exact absurd h58 h1)
      clear hle hk hl hk1 hc hnm htx h1
      go_wp2_with fail
      go_roundw
      case rel => exact ⟨k1, rfl, HN, trivial⟩
      case measure => have := HK1.out; simp [intOf]; omega
end Go.Proofs.Ythlkmlphbepnpaa

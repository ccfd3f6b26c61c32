/-
  The walks of the two Index functions, at any word of the two parts: the first index whose place has equal parts, or the error. Condition: the text is no longer than a machine's.
-/
import Derived.Test.YtfdldhpbdllmeaaDoorMoves
namespace Go.Proofs.YtfdldhpbdllmeaaDoor
open Go.RowKit

/-- Is the place of index k the one asked for? -/
def hit (s : ByteArray) (x y k : Nat) : Bool := (FloatKind.f64.format.order (rungOf (pl (s.data.toList.take k)).1) x == some .eq) && (FloatKind.f64.format.order (rungOf (pl (s.data.toList.take k)).2) y == some .eq)
/-- The first index from k on that is hit, of m more. -/
def idxFrom (s : ByteArray) (x y : Nat) (k : Nat) : Nat → Option Nat
  | 0 => if hit s x y k = true then some k else none
  | m + 1 => if hit s x y k = true then some k else idxFrom s x y (k + 1) m
def ansI : Option Nat → Int
  | some n => (n : Int)
  | none => 0
def ansE : Option Nat → Int
  | some _ => 0
  | none => 11

theorem idx_hit (s : ByteArray) (x y k m : Nat) (h : hit s x y k = true) : idxFrom s x y k m = some k := by
  cases m <;> simp [idxFrom, h]
theorem idx_miss (s : ByteArray) (x y k m : Nat) (h : hit s x y k = false) : idxFrom s x y k (m + 1) = idxFrom s x y (k + 1) m := by
  simp [idxFrom, h]
theorem idx_end (s : ByteArray) (x y k : Nat) (h : hit s x y k = false) : idxFrom s x y k 0 = none := by
  simp [idxFrom, h]

theorem pl_take_succ (s : ByteArray) (k : Nat) (h : k < s.size) : pl (s.data.toList.take (k + 1)) = bh (pl (s.data.toList.take k)) s[k] := by
  rw [take_snoc s k h, pl_snoc]
theorem pl_take_le (s : ByteArray) (k : Nat) : (pl (s.data.toList.take k)).1 ≤ k + 1 ∧ (pl (s.data.toList.take k)).2 ≤ k + 1 := by
  have h1 := pl_le (s.data.toList.take k)
  have h2 := List.length_take_le k s.data.toList
  omega

/-- 'wp_scope_jumps' whose first pass from the label is one of the later ones. -/
theorem wp_scope_again {P : Program} {a : Act} {w : World} {Q : Exit → Act → World → Prop} {c after : Code} (l : Nat) (J : Act → World → Prop) (μ : Act → World → Nat) (hf : findLabel c l = some (.seq .skip after))
    (first : (∀ a w, J a w → after.wp P (Exit.jump l J Q) a w) → c.wp P (Exit.jump l J Q) a w)
    (pass : ∀ a w, J a w → after.wp P (Exit.jump l (fun a' w' => J a' w' ∧ μ a' w' < μ a w) Q) a w) : (Code.scope c).wp P Q a w :=
  wp_scope_jumps l J μ hf (first fun a w h => Code.wp_mono (fun e a' w' he => by
    cases e with
    | goto k => exact ⟨he.1, he.2.1⟩
    | _ => exact he) (pass a w h)) (fun a w h => wp_seq (wp_skip (pass a w h)))

def IdxRel (s : ByteArray) (x y : Nat) (k a b : Nat) : Prop := pl (s.data.toList.take k) = (a, b) ∧ idxFrom s x y 0 s.size = idxFrom s x y k (s.size - k)

set_option maxRecDepth 100000 in
set_option maxHeartbeats 1000000 in
theorem index_any (s : ByteArray) (x y : Nat) (w : World) (hs : s.size ≤ 4503599627370495) :
    Calls Tryd.prog 12 #[.string s, .complex .f64 x y] w fun e w' => e = .returned (.tuple #[.int .i64 (ansI (idxFrom s x y 0 s.size)), .int .i64 (ansE (idxFrom s x y 0 s.size))]) ∧ w = w' := by
  have round : ∀ (k a b : Nat), k ≤ s.size → IdxRel s x y k a b → (∃ h : k < s.size, hit s x y k = false ∧ ∃ a' b', bh (a, b) s[k] = (a', b') ∧ IdxRel s x y (k + 1) a' b') ∨ (hit s x y k = true ∧ idxFrom s x y 0 s.size = some k) ∨ (k = s.size ∧ hit s x y k = false ∧ idxFrom s x y 0 s.size = none) := by
    intro k a b hk ⟨h1, h2⟩
    cases hh : hit s x y k with
    | true => exact .inr (.inl ⟨rfl, by rw [h2, idx_hit _ _ _ _ _ hh]⟩)
    | false =>
      by_cases hlt : k < s.size
      · refine .inl ⟨hlt, rfl, (bh (a, b) s[k]).1, (bh (a, b) s[k]).2, rfl, ?_, ?_⟩
        · rw [pl_take_succ s k hlt, h1]
        · rw [h2, show s.size - k = (s.size - (k + 1)) + 1 by omega, idx_miss _ _ _ _ _ hh]
      · have e : k = s.size := by omega
        refine .inr (.inr ⟨e, rfl, ?_⟩)
        rw [h2, show s.size - k = 0 by omega, idx_end _ _ _ _ hh]
  go_enter Tryd.func12, Tryd.ntmps12
  go_wp2
  have J0 : IdxRel s x y 0 1 1 := ⟨rfl, by rw [Nat.sub_zero]⟩
  refine wp_scope_again 0 (fun a' w' => w = w' ∧ ∃ (k a b : Nat) (u8 u9 u10 u11 u12 u13 u14 u15 u16 u17 u18 u19 u20 u21 u22 : Value), k ≤ s.size ∧ IdxRel s x y k a b ∧ a' = { tmps := #[.string s, .complex .f64 x y, undef, undef, .int .i64 0, .int .i64 0, .int .i64 k, .complex .f64 (rungOf a) (rungOf b), u8, u9, u10, u11, u12, u13, u14, u15, u16, u17, u18, u19, u20, u21, u22], defers := [] }) (fun a' _ => s.size - (intOf (a'.tmps.getD 6 undef)).toNat) rfl ?_ ?_
  · intro hp
    have HP := Lib.hid hp
    have HJ := Lib.hid J0
    clear hp J0 round
    go_wp2
    go_step3
    simp only [Exit.then]
    rename_i hK
    exact hK _ _ (HP.out _ _ ⟨rfl, 0, 1, 1, _, _, _, _, _, _, _, _, _, _, _, _, _, _, _, Nat.zero_le _, HJ.out, by rw [rung1]; rfl⟩)
  · rintro a' w' ⟨rfl, k, a, b, u8, u9, u10, u11, u12, u13, u14, u15, u16, u17, u18, u19, u20, u21, u22, hk, hrel, rfl⟩
    have hab := pl_take_le s k
    rw [hrel.1] at hab
    obtain ⟨ha, hb⟩ := hab
    simp only at ha hb
    rcases round k a b hk hrel with ⟨hlt, hh, a', b', hbh, hrel'⟩ | ⟨hh, hres⟩ | ⟨hke, hh, hres⟩
    · unfold hit at hh
      rw [hrel.1] at hh
      have HB : ∀ w, Calls Tryd.prog 22 #[.complex .f64 (rungOf a) (rungOf b), .int .u8 s[k].toNat] w fun e w' => e = .returned (.complex .f64 (rungOf a') (rungOf b')) ∧ w = w' := by
        intro w
        have := behind_any (a, b) s[k] w (by simp only; omega) (by simp only; omega)
        rw [hbh] at this
        exact this
      have H := Lib.hid HB
      have HR := Lib.hid hrel'
      clear HB hrel' hbh hrel round
      go_wp2_with (go_at_call 22; (with_reducible refine (H.out _).mono ?_); rintro e w' ⟨rfl, rfl⟩)
      go_step3
      exact ⟨rfl, ⟨rfl, k + 1, a', b', _, _, _, _, _, _, _, _, _, _, _, _, _, _, _, by omega, HR.out, rfl⟩, by simp [intOf]; omega⟩
    · unfold hit at hh
      rw [hrel.1] at hh
      have HR := Lib.hid hres
      clear hres hrel round
      go_wp2
      simp only [Exit.jump]
      go_ret2
      exact ⟨by rw [HR.out]; rfl, rfl⟩
    · unfold hit at hh
      rw [hrel.1] at hh
      have HR := Lib.hid hres
      have HE := Lib.hid hke
      have e0 : ((k : Int) == (s.size : Int)) = true := by rw [hke]; simp
      clear hres hrel round hke
      go_wp2
      simp only [Exit.jump]
      go_ret2
      exact ⟨by rw [HR.out]; rfl, rfl⟩

def IdxMet (s : ByteArray) (x y k : Nat) : Prop := (k ≤ s.size → idxFrom s x y 0 s.size = idxFrom s x y k (s.size - k)) ∧ (k = s.size + 1 → idxFrom s x y 0 s.size = none)

theorem refAt_pair (s : ByteArray) (k a b : Nat) (hab : pl (s.data.toList.take k) = (a, b)) (w : World) (hs : s.size ≤ 4503599627370495) (hk : k ≤ s.size) :
    Calls Tryd.prog 11 #[.string s, .int .i64 k] w fun e w' => e = .returned (.tuple #[.complex .f64 (rungOf a) (rungOf b), .int .i64 0]) ∧ w = w' := by
  have := refAt_in s k w hs hk
  rw [hab] at this
  exact this

set_option maxHeartbeats 1000000 in
theorem refIndex_any (s : ByteArray) (x y : Nat) (w : World) (hs : s.size ≤ 4503599627370495) :
    Calls Tryd.prog 13 #[.string s, .complex .f64 x y] w fun e w' => e = .returned (.tuple #[.int .i64 (ansI (idxFrom s x y 0 s.size)), .int .i64 (ansE (idxFrom s x y 0 s.size))]) ∧ w = w' := by
  go_enter Tryd.func13, Tryd.ntmps13
  go_wp2
  go_loop [6] (fun i => ∃ k : Nat, k ≤ s.size + 1 ∧ i = .int .i64 k ∧ IdxMet s x y k) (fun i => s.size + 1 - (intOf i).toNat)
  case atStart => exact ⟨0, Nat.zero_le _, rfl, fun _ => by rw [Nat.sub_zero], fun h => by omega⟩
  case round =>
    obtain ⟨k, hk, rfl, hm⟩ := hrel
    by_cases hle : k ≤ s.size
    · obtain ⟨a, b, hab⟩ : ∃ a b, pl (s.data.toList.take k) = (a, b) := ⟨_, _, rfl⟩
      have hr := hm.1 hle
      have H := Lib.hid (fun w => refAt_pair s k a b hab w hs hle)
      cases hh : hit s x y k with
      | true =>
        have HR : Hid (idxFrom s x y 0 s.size = some k) := Lib.hid (by rw [hr, idx_hit _ _ _ _ _ hh])
        unfold hit at hh
        rw [hab] at hh
        clear hr hm hab
        go_wp2_with (go_at_call 11; (with_reducible refine (H.out _).mono ?_); rintro e w' ⟨rfl, rfl⟩)
        go_ret2
        exact ⟨by rw [HR.out]; rfl, rfl⟩
      | false =>
        have HM : Hid (IdxMet s x y (k + 1)) := Lib.hid (by
          refine ⟨fun hk1 => ?_, fun hk1 => ?_⟩
          · rw [hr, show s.size - k = (s.size - (k + 1)) + 1 by omega, idx_miss _ _ _ _ _ hh]
          · rw [hr, show s.size - k = 0 by omega, idx_end _ _ _ _ hh])
        unfold hit at hh
        rw [hab] at hh
        clear hr hm hab
        go_wp2_with (go_at_call 11; (with_reducible refine (H.out _).mono ?_); rintro e w' ⟨rfl, rfl⟩)
        go_round
        case rel => exact ⟨k + 1, by omega, by go_num, HM.out⟩
        case measure => simp [intOf]; omega
    · have HR := Lib.hid (hm.2 (by omega))
      have hgt : s.size < k := by omega
      clear hm
      go_wp2
      go_ret2
      exact ⟨by rw [HR.out]; rfl, rfl⟩
end Go.Proofs.YtfdldhpbdllmeaaDoor

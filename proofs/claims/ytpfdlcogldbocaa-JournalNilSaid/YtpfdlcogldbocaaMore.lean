/-
  What More and Sum of package fletcher, and of the document's answer, return over bytes in memory: the same number. Condition: the bytes lie in memory.
-/
import Derived.Test.YtpfdlcogldbocaaBytes
namespace Go.Proofs.Ytpfdlcogldbocaa
open Go.RowKit

/-- 'wp_scope_jumps' whose first pass from the label is one of the later ones. -/
theorem wp_scope_again {P : Program} {a : Act} {w : World} {Q : Exit → Act → World → Prop} {c after : Code} (l : Nat) (J : Act → World → Prop) (μ : Act → World → Nat) (hf : findLabel c l = some (.seq .skip after))
    (first : (∀ a w, J a w → after.wp P (Exit.jump l J Q) a w) → c.wp P (Exit.jump l J Q) a w)
    (pass : ∀ a w, J a w → after.wp P (Exit.jump l (fun a' w' => J a' w' ∧ μ a' w' < μ a w) Q) a w) : (Code.scope c).wp P Q a w :=
  wp_scope_jumps l J μ hf (first fun a w h => Code.wp_mono (fun e a' w' he => by
    cases e with
    | goto k => exact ⟨he.1, he.2.1⟩
    | _ => exact he) (pass a w h)) (fun a w h => wp_seq (wp_skip (pass a w h)))

def MoreRel (s : Nat) (l : List UInt8) (k a b : Nat) : Prop := k ≤ l.length ∧ fwalk (fbegin s) (l.take k) = (a, b)

theorem more_start (s : Nat) (l : List UInt8) : MoreRel s l 0 (s % 65536 % 65521) (s / 65536 % 65521) := ⟨Nat.zero_le _, rfl⟩
theorem more_lts (s : Nat) (l : List UInt8) (k a b : Nat) (h : MoreRel s l k a b) : a < 65521 ∧ b < 65521 := by
  have := fwalk_lt (l.take k) _ (fbegin_lt s)
  rw [h.2] at this
  exact this
theorem more_done (s : Nat) (l : List UInt8) (k a b : Nat) (h : MoreRel s l k a b) (hk : k = l.length) : b * 65536 + a = more s l := by
  have := h.2
  rw [hk, List.take_length] at this
  unfold more fend
  rw [this]
theorem more_next (s : Nat) (l : List UInt8) (k a b : Nat) (c : UInt8) (h : MoreRel s l k a b) (hk : l[k]? = some c) : MoreRel s l (k + 1) ((a + c.toNat) % 65521) ((b + (a + c.toNat) % 65521) % 65521) := by
  have hlt : k < l.length := (List.getElem?_eq_some_iff.1 hk).1
  refine ⟨hlt, ?_⟩
  rw [fwalk_take_succ _ _ _ _ hk, h.2]
  rfl

set_option maxRecDepth 100000 in
set_option maxHeartbeats 1000000 in
theorem refMore_any (s : Nat) (hs : s < 4294967296) (A : Option Addr) (l : List UInt8) (cap : Nat) (w : World) (hb : BytesAt w A l) (hl : l.length ≤ maxLen) :
    Calls Try.prog 63 #[.int .u32 s, .slice A l.length cap] w fun e w' => e = .returned (.int .u32 (more s l)) ∧ w = w' := by
  have HB := Lib.hid hb
  have HS := Lib.hid (more_start s l)
  unfold maxLen at hl
  clear hb
  go_enter Try.func63, Try.ntmps63
  go_wp2
  go_loop [5, 6, 7] (fun x y i => ∃ k a b : Nat, MoreRel s l k a b ∧ x = .int .u64 a ∧ y = .int .u64 b ∧ i = .int .i64 k) (fun _ _ i => l.length - (intOf i).toNat)
  case atStart => exact ⟨0, _, _, HS.out, rfl, rfl, rfl⟩
  case round =>
    obtain ⟨k, a, b, hr, rfl, rfl, rfl⟩ := hrel
    obtain ⟨ha, hb⟩ := more_lts _ _ _ _ _ hr
    by_cases hk : k < l.length
    · obtain ⟨c, hc⟩ : ∃ c, l[k]? = some c := ⟨l[k], by simp [hk]⟩
      obtain ⟨g, o, rfl, hcell⟩ := HB.out k c hc
      have HN := Lib.hid (more_next _ _ _ _ _ _ hr hc)
      unfold byteV at hcell
      have hc256 := c.toNat_lt
      clear hr hc
      go_wp2
      go_round
      case rel => exact ⟨k + 1, _, _, HN.out, rfl, rfl, by go_num⟩
      case measure => simp [intOf]; omega
    · have HD := Lib.hid (more_done _ _ _ _ _ hr (by have := hr.1; omega))
      clear hr
      go_wp2
      go_ret
      exact ⟨by rw [← HD.out]; rfl, rfl⟩

set_option maxRecDepth 100000 in
set_option maxHeartbeats 1000000 in
theorem more_any (s : Nat) (hs : s < 4294967296) (A : Option Addr) (l : List UInt8) (cap : Nat) (w : World) (hb : BytesAt w A l) (hl : l.length ≤ maxLen) :
    Calls Try.prog 60 #[.int .u32 s, .slice A l.length cap] w fun e w' => e = .returned (.int .u32 (more s l)) ∧ w = w' := by
  have HB := Lib.hid hb
  have HS := Lib.hid (more_start s l)
  unfold maxLen at hl
  clear hb
  go_enter Try.func60, Try.ntmps60
  go_wp2
  refine wp_scope_again 0 (fun a' w' => w = w' ∧ ∃ (k a b : Nat) (u8 u9 u10 u11 u12 u13 u14 u15 u16 u17 u18 u19 u20 u21 u22 u23 u24 u25 u26 u27 u28 u29 u30 u31 u32 u33 u34 u35 : Value), MoreRel s l k a b ∧ a' = { tmps := #[.int .u32 s, .slice A l.length cap, undef, undef, .int .u32 0, .int .u32 a, .int .u32 b, .int .i64 k, u8, u9, u10, u11, u12, u13, u14, u15, u16, u17, u18, u19, u20, u21, u22, u23, u24, u25, u26, u27, u28, u29, u30, u31, u32, u33, u34, u35], defers := [] }) (fun a' _ => l.length - (intOf (a'.tmps.getD 7 undef)).toNat) rfl ?_ ?_
  · intro hp
    have HP := Lib.hid hp
    clear hp
    go_wp2
    go_step3
    simp only [Exit.then]
    rename_i hK
    exact hK _ _ (HP.out _ _ ⟨rfl, 0, _, _, _, _, _, _, _, _, _, _, _, _, _, _, _, _, _, _, _, _, _, _, _, _, _, _, _, _, _, _, HS.out, rfl⟩)
  · rintro a' w' ⟨rfl, k, a, b, u8, u9, u10, u11, u12, u13, u14, u15, u16, u17, u18, u19, u20, u21, u22, u23, u24, u25, u26, u27, u28, u29, u30, u31, u32, u33, u34, u35, hr, rfl⟩
    obtain ⟨ha, hb⟩ := more_lts _ _ _ _ _ hr
    by_cases hk : k < l.length
    · obtain ⟨c, hc⟩ : ∃ c, l[k]? = some c := ⟨l[k], by simp [hk]⟩
      obtain ⟨g, o, rfl, hcell⟩ := HB.out k c hc
      have HN := Lib.hid (more_next _ _ _ _ _ _ hr hc)
      unfold byteV at hcell
      have hc256 := c.toNat_lt
      have e0 : ((k : Int) == (l.length : Int)) = false := by simp; omega
      clear hr hc
      go_wp2
      go_step3
      exact ⟨rfl, ⟨rfl, k + 1, _, _, _, _, _, _, _, _, _, _, _, _, _, _, _, _, _, _, _, _, _, _, _, _, _, _, _, _, _, _, HN.out, rfl⟩, by simp [intOf]; omega⟩
    · have HD := Lib.hid (more_done _ _ _ _ _ hr (by have := hr.1; omega))
      have e0 : ((k : Int) == (l.length : Int)) = true := by have := hr.1; simp; omega
      clear hr
      go_wp2
      simp only [Exit.jump]
      go_ret
      exact ⟨by rw [← HD.out]; rfl, rfl⟩
end Go.Proofs.Ytpfdlcogldbocaa

/-
  The program's Lines and behind. Condition: the rope is no longer than 65536 bytes.
  The program's Text and Line. Condition: the rope is no longer than 65536 bytes.
  The program's Of, Join and Cut; and that its ropes do what RopeApi asks. No condition.
-/
import Derived.Test.YtcjbhjbjkfgphaaRdiv
import Derived.Test.YtcjbhjbjkfgphaaRwrite
import Derived.Test.YtcjbhjbjkfgphaaRcopy
namespace Go.Proofs.Ytcjbhjbjkfgphaa
open Go.RowKit Go.Deep

end Go.Proofs.Ytcjbhjbjkfgphaa

namespace Go.Proofs.Ytcjbhjbjkfgphaa
open Go.RowKit Go.Deep

theorem copied_is {w : World} {p : Option Addr} {l : List UInt8} (h : RopeIs w p l) (i j : Nat) (hij : i ≤ j) (hj : j ≤ l.length) :
    Calls Try.prog 35 #[.pointer p, .int .i64 (i : Int), .int .i64 (j : Int)] w (Answers (.string (txt ((l.take j).drop i))) w) := by
  obtain ⟨hl, ⟨rfl, rfl⟩ | ⟨b, t, rfl, ht, _, rfl⟩⟩ := h
  · have hj0 : j = 0 := by simpa using hj
    have hi0 : i = 0 := by omega
    subst hj0
    subst hi0
    exact copied_pcs w none _ _ 0 [] (by simp) (by omega) (.inl ⟨rfl, by omega, rfl⟩) (by simp)
  · have hf := pcs_flat t (i : Int) (j : Int) (by omega) (by omega) hl
    rw [Int.toNat_natCast, Int.toNat_natCast] at hf
    rw [← hf]
    exact copied_pcs w _ _ _ (j - i) _ (by omega) (by omega) (.inr ⟨b, t, rfl, ht, by omega, by omega, by omega, hl, rfl⟩) (pcs_le t _ _ (by omega) (by omega) hl)

set_option maxHeartbeats 1000000 in
theorem text_is {w : World} {p : Option Addr} {l : List UInt8} (h : RopeIs w p l) : Calls Try.prog 23 #[.pointer p] w (Answers (.string (txt l)) w) := by
  have HLEN := Lib.hid (len_is h)
  have hc := copied_is h 0 l.length (by omega) (Nat.le_refl _)
  rw [List.take_length, List.drop_zero, show ((0 : Nat) : Int) = 0 from rfl] at hc
  obtain ⟨n, en⟩ : ∃ n, n = l.length := ⟨_, rfl⟩
  rw [← en] at hc HLEN
  have HC := Lib.hid hc
  clear hc h en
  go_enter Try.func23, Try.ntmps23
  go_wp2_with fail
  go_at_call 36
  (with_reducible refine HLEN.out.mono ?_)
  rintro e w1 ⟨rfl, rfl⟩
  go_wp2_with fail
  go_at_call 35
  (with_reducible refine HC.out.mono ?_)
  rintro e w1 ⟨rfl, hb⟩
  have HB := Lib.hid hb
  clear hb
  go_wp2_with fail
  go_ret
  exact ⟨rfl, HB.out⟩

end Go.Proofs.Ytcjbhjbjkfgphaa

namespace Go.Proofs.Ytcjbhjbjkfgphaa
open Go.RowKit Go.Deep

theorem RopeIs.of {w : World} {b : Nat} {t : RT} (ht : IsRT w b t) (kt : t.ok) {l : List UInt8} (et : t.text = l) (hl : l.length ≤ 65536) : RopeIs w (some ⟨b, 0, none⟩) l := ⟨hl, .inr ⟨b, t, rfl, ht, kt, et⟩⟩

set_option maxHeartbeats 1000000 in
theorem of_ok (l : List UInt8) (s : ByteArray) (w : World) (hs : s = txt l) (hl : l.length ≤ 65536) : Calls Try.prog 9 #[.string s] w (RopeMade RopeIs l w) := by
  have h1 : (s.size : Int) ≤ 65536 := by rw [hs, size_txt]; omega
  have HCL := Lib.hid (clone_same s w (by rw [hs, size_txt]; omega))
  have HD := Lib.hid fun (W : World) => divided_any l s hs W hl
  have HL := Lib.hid hl
  clear hs hl
  go_enter Try.func9, Try.ntmps9
  go_wp2_with fail
  go_at_call 26
  (with_reducible refine HCL.out.mono ?_)
  rintro e w1 ⟨rfl, hb⟩
  have HB := Lib.hid hb
  clear hb
  go_wp2_with fail
  go_at_call 25
  (with_reducible refine (HD.out _).mono ?_)
  rintro e w2 ⟨t, kt, et, x, rfl, hx, hb⟩
  have HB2 := Lib.hid (HB.out.trans (hb.mono HB.out.size))
  have HT := Lib.hid (RopeIs.of hx kt et HL.out)
  clear hb hx kt et
  go_wp2_with fail
  go_ret2
  exact ⟨_, rfl, HT.out, HB2.out⟩
/-- What trees want of ropes, of this program's. -/
theorem rope_few : RopeFew RopeIs where
  below := fun h hb => h.below hb
  nil := fun _ => ⟨by simp, .inl ⟨rfl, rfl⟩⟩
  of_ok := of_ok
  text_is := fun h => text_is h
end Go.Proofs.Ytcjbhjbjkfgphaa

/-
  The program's Of, Join and Cut; and that its ropes do what RopeApi asks. No condition.
-/
import Derived.Test.YtmcohbppeabmgaaRtext
import Derived.Test.YtmcohbppeabmgaaRcutp
namespace Go.Proofs.Ytmcohbppeabmgaa
open Go.RowKit Go.Deep

theorem RopeIs.of {w : World} {b : Nat} {t : RT} (ht : IsRT w b t) (kt : t.ok) {l : List UInt8} (et : t.text = l) (hl : l.length ≤ 65536) : RopeIs w (some ⟨b, 0, none⟩) l := ⟨hl, .inr ⟨b, t, rfl, ht, kt, et⟩⟩

set_option maxHeartbeats 1000000 in
theorem of_ok (l : List UInt8) (s : ByteArray) (w : World) (hs : s = txt l) (hl : l.length ≤ 65536) : Calls Try.prog 10 #[.string s] w (RopeMade RopeIs l w) := by
  have h1 : (s.size : Int) ≤ 65536 := by rw [hs, size_txt]; omega
  have HCL := Lib.hid (clone_same s w (by rw [hs, size_txt]; omega))
  have HD := Lib.hid fun (W : World) => divided_any l s hs W hl
  have HL := Lib.hid hl
  clear hs hl
  go_enter Try.func10, Try.ntmps10
  go_wp2_with fail
  go_at_call 28
  (with_reducible refine HCL.out.mono ?_)
  rintro e w1 ⟨rfl, hb⟩
  have HB := Lib.hid hb
  clear hb
  go_wp2_with fail
  go_at_call 27
  (with_reducible refine (HD.out _).mono ?_)
  rintro e w2 ⟨t, kt, et, x, rfl, hx, hb⟩
  have HB2 := Lib.hid (HB.out.trans (hb.mono HB.out.size))
  have HT := Lib.hid (RopeIs.of hx kt et HL.out)
  clear hb hx kt et
  go_wp2_with fail
  go_ret2
  exact ⟨_, rfl, HT.out, HB2.out⟩
/-- What trees want of ropes, of this program's. -/
theorem rope_few : RopeFew RopeIs where
  below := fun h hb => h.below hb
  nil := fun _ => ⟨by simp, .inl ⟨rfl, rfl⟩⟩
  of_ok := of_ok
  text_is := fun h => text_is h
end Go.Proofs.Ytmcohbppeabmgaa

/-
  The program's part: a new rope over one text. Condition: the text is no longer than 2^40 bytes.
-/
import Derived.Test.YtcjbhjbjkfgphaaRtree
import Derived.Test.YtcjbhjbjkfgphaaRwrite
namespace Go.Proofs.Ytcjbhjbjkfgphaa
open Go.RowKit Go.Deep

set_option maxRecDepth 100000 in
set_option maxHeartbeats 1000000 in
theorem part_new (l : List UInt8) (s : ByteArray) (hs : s = txt l) (w : World) (_hl : l.length ≤ 1099511627776) :
    Calls Try.prog 37 #[.string s] w (Made (.part l) w) := by
  have HC := Lib.hid (count_feeds l s hs w)
  have hsz : s.size = l.length := by rw [hs, size_txt]
  obtain ⟨m, em⟩ : ∃ m, m = feeds l := ⟨_, rfl⟩
  rw [← em] at HC
  have E1 := Lib.hid hs
  have E2 := Lib.hid hsz
  have E3 := Lib.hid em
  clear hs hsz em
  go_enter Try.func37, Try.ntmps37
  go_wp2_with fail
  go_at_call 51
  (with_reducible refine HC.out.mono ?_)
  rintro e w1 ⟨rfl, rfl⟩
  go_wp2_with fail
  go_ret
  have hbo := (Below.refl _ w).alloc (Nat.le_refl _) (.cells #[.string s, .pointer none, .pointer none, .int .i64 (s.size : Int), .int .i64 (m : Int), .int .i64 0] 110)
  refine ⟨w.heap.size, rfl, ?_, hbo⟩
  show _ = _
  unfold partCells
  rw [← E1.out, ← E2.out, ← E3.out]
  exact heap_alloc_new w _
end Go.Proofs.Ytcjbhjbjkfgphaa

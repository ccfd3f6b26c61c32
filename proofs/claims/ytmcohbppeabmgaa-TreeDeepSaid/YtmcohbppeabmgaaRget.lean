/-
  The program's Len and Index, the loops that go down to a part. Condition: the rope is no longer than 65536 bytes.
-/
import Derived.Test.YtmcohbppeabmgaaRjoin
import Derived.Deep.LoopGhost
namespace Go.Proofs.Ytmcohbppeabmgaa
open Go.RowKit Go.Deep

/-- What a rope in memory says: none is the empty text. -/
def RopeIs (w : World) (p : Option Addr) (l : List UInt8) : Prop := l.length ≤ 65536 ∧ ((p = none ∧ l = []) ∨ ∃ b t, p = some ⟨b, 0, none⟩ ∧ IsRT w b t ∧ t.ok ∧ t.text = l)
theorem RopeIs.below {w w' : World} {p : Option Addr} {l : List UInt8} (h : RopeIs w p l) (hb : Below w.heap.size w w') : RopeIs w' p l := by
  obtain ⟨h1, h2 | ⟨b, t, e, h3, h4, h5⟩⟩ := h
  · exact ⟨h1, .inl h2⟩
  · exact ⟨h1, .inr ⟨b, t, e, h3.below hb, h4, h5⟩⟩

set_option maxHeartbeats 1000000 in
theorem len_is {w : World} {p : Option Addr} {l : List UInt8} (h : RopeIs w p l) : Calls Try.prog 38 #[.pointer p] w fun e w' => e = .returned (.int .i64 (l.length : Int)) ∧ w = w' := by
  obtain ⟨_, ⟨rfl, rfl⟩ | ⟨b, t, rfl, h3, _, rfl⟩⟩ := h
  · go_enter Try.func38, Try.ntmps38
    go_wp2_with fail
    go_ret
    exact ⟨rfl, rfl⟩
  · have c3 := h3.sizeC
    clear h3
    obtain ⟨n, en⟩ : ∃ n, n = t.text.length := ⟨_, rfl⟩
    rw [← en] at c3 ⊢
    clear en
    go_enter Try.func38, Try.ntmps38
    go_wp2_with fail
    go_ret
    exact ⟨rfl, rfl⟩

end Go.Proofs.Ytmcohbppeabmgaa

/-
  The program's ropes stay when another row turns; facts of the program that the laws' proofs share. No condition.
-/
import Derived.Test.YtfibclaojdoonaaRmake
import Derived.Test.YtfibclaojdoonaaRfar
import Derived.Test.YtfibclaojdoonaaRargs
import Derived.ProofKit
import Derived.OpenShut
import Derived.Lay
namespace Go.Proofs.Ytfibclaojdoonaa
open Go.RowKit Go.Deep

theorem IsRT.far {w w' : World} {T : Nat → Prop} (ht : Turned T w w') (hT : ∀ k, T k → ∀ cs fr, w.heap[k]? = some (.cells cs 60 fr) → False) : ∀ {b : Nat} {t : RT}, IsRT w b t → IsRT w' b t
  | _, .part _, h => ht.obj h (fun hk => hT _ hk _ _ h)
  | _, .node _ _, ⟨x, y, h, h1, h2⟩ => ⟨x, y, ht.obj h (fun hk => hT _ hk _ _ h), IsRT.far ht hT h1, IsRT.far ht hT h2⟩
theorem rope_far : RopeFar RopeIs := ⟨fun hr ht hT => by
  obtain ⟨h1, h2 | ⟨b, t, e, h3, h4, h5⟩⟩ := hr
  · exact ⟨h1, .inl h2⟩
  · exact ⟨h1, .inr ⟨b, t, e, h3.far ht hT, h4, h5⟩⟩⟩
theorem own_none : ownKnob Try.prog.godebug = none := by kernel_rfl
set_option maxRecDepth 100000 in
theorem laid_out : laidOutB Try.prog = true := by kernel_rfl
end Go.Proofs.Ytfibclaojdoonaa

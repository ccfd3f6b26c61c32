/-
  The program's trees and ropes are as the laws want them. No condition.
-/
import Derived.Test.YtcjbhjbjkfgphaaNset
import Derived.Test.YtcjbhjbjkfgphaaNfiles
import Derived.ProofKit
import Derived.OpenShut
import Derived.Lay
namespace Go.Proofs.Ytcjbhjbjkfgphaa
open Go.RowKit Go.Deep

set_option maxRecDepth 100000 in
theorem own_none : ownKnob Try.prog.godebug = none := by kernel_rfl
set_option maxRecDepth 100000 in
theorem laid_out : laidOutB Try.prog = true := by kernel_rfl
theorem tree_api : TreeApi RopeIs TreeIs where
  below := fun h hb => h.below hb
  nil := fun w => TreeIs.nil w
  rise := fun h => by
    obtain ⟨xs, r, rfl, hg, _⟩ := h
    exact hg.rise
  paths := fun h f hf => by
    obtain ⟨xs, r, rfl, hg, _⟩ := h
    obtain ⟨x, hx, rfl⟩ := List.mem_map.1 hf
    exact hg.right x hx
  few := fun h => by
    obtain ⟨xs, r, rfl, hg, _⟩ := h
    rw [List.length_map]
    exact hg.few
  right_is := fun s w hs => tree_right s w hs
  set_ok := fun s v t hT hR ht hs hn hv => tree_set s v t hT hR ht hs hn hv
  set_path := fun s v _ _ hs hn _ => tree_set_no _ _ s v hs hn
  drop_ok := fun s hT hs => tree_drop s hT hs
  drop_no := fun s hT _ hs => tree_drop_no s hT hs
  get_is := fun s hT _ => tree_get s hT
  version_is := fun s hT _ => tree_version s hT
  len_is := fun hT => tree_len hT
  files_is := fun hT => files_tree hT
  scan_is := fun a b hT _ _ => scan_tree a b hT
end Go.Proofs.Ytcjbhjbjkfgphaa

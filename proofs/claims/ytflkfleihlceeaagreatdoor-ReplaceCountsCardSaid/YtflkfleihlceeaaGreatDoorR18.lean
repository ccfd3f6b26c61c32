/-
 ReplaceItself, the pure part. No condition.
-/
import Derived.Test.YtflkfleihlceeaaGreatDoorR17
namespace Go.Proofs.YtflkfleihlceeaaGreatDoor
open Go.RowKit Go.Deep Go.Shelf

theorem cov_part {s : ByteArray} {i z : Nat} (hi : i <= z) (hz : z <= s.size) : (covP s ((i : Int), (z : Int))).data.toList = (s.data.toList.take z).drop i := by
 unfold covP;rw [if_neg (by simp only; omega)];exact ext_part s i z
theorem row_box {W : World} {b : Nat} {cs : Array Value} {T : TypeId} (h : W.heap[b]? = some (.cells cs T (0, 0))) : RawAt W (some ⟨b, 0, none⟩) cs.toList := .inr ⟨b, 0, rfl, fun j v hv => by
 rw [Nat.zero_add, obc h, <- Array.getElem?_toList]
 exact hv⟩
theorem rep_at {w W : World} {bs : List (Nat × Array Value × TypeId)} {t : PN} {y : NV} (H : St w W bs [(t, y)]) (hD : DebAt w) (hn : nodT t <= 100000) {b cl : Nat} {xs : List Pc} {cs : Array Value} {T : TypeId} (hb : W.heap[b]? = some (.cells cs T (0, 0))) (hcs : cs.toList = pcsV xs) (hx : xs.length <= 1000000) (s : ByteArray) (c : Int) (all : Bool) :
  Calls Tryz.prog 22 #[.agg #[.int .i64 y.kind, .int .u64 (y.set 0), .int .u64 (y.set 1), .int .u64 (y.set 2), .int .u64 (y.set 3), .int .i64 y.lo, .int .i64 y.hi, .int .i64 y.num, .slice y.A y.n y.c], .slice (some ⟨b, 0, none⟩) xs.length cl, .string s, .int .i64 c, .bool all] W (RepAns t xs s c all W) := by
 have h := row_box hb;rw [hcs] at h;have hr := replace_is (w := W) (t := t) (y := y) (xs := xs) (A := some ⟨b, 0, none⟩) (cl := cl) (s := s) c all (H.tr 0 rfl) (hD.below H.bel) hn h hx;rw [NV.v_eq] at hr;exact hr
end Go.Proofs.YtflkfleihlceeaaGreatDoor

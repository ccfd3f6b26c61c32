/-
  A reader of scripts in memory; laws for the walk. No condition.
-/
import Derived.Test.YtncbmdbfdjhkeaaK24
import Derived.Test.YtncbmdbfdjhkeaaPraw
import Derived.Test.YtncbmdbfdjhkeaaTklin
import Derived.Test.YtncbmdbfdjhkeaaTknum
import Derived.Test.YtncbmdbfdjhkeaaTkcut
import Derived.Test.YtncbmdbfdjhkeaaSpl
import Derived.Deep.Cut
import Derived.Deep.WholeRow
import Derived.Lib.QuietBelow
import Derived.Deep.RegionHeld
import Derived.BigQuiet
import Derived.Deep.QuietTactic
import Derived.StillTail
namespace Go.Proofs.Ytncbmdbfdjhkeaa
open Go.RowKit Go.Deep Go.Sort

/-- A reader: its text, where it is, whether patterns are extended ones. -/
def Rd (s : ByteArray) (ext : Bool) (r : Nat) (n : Int) (W : World) : Prop := W.heap[r]? = some (.cells #[.string s, .int .i64 n, .bool ext] 46 (0, 0))
theorem Rd.lt {s : ByteArray} {ext : Bool} {r : Nat} {n : Int} {W : World} (h : Rd s ext r n W) : r < W.heap.size := lt_of_some h
theorem Rd.stays {s : ByteArray} {ext : Bool} {r : Nat} {n : Int} {W W' : World} (h : Rd s ext r n W) (hb : Below W.heap.size W W') : Rd s ext r n W' := Below.obj hb h (lt_of_some h)
theorem Rd.turned {s : ByteArray} {ext : Bool} {r : Nat} {n : Int} {W W' : World} {S : Nat → Prop} (h : Rd s ext r n W) (ht : Turned S W W') (hn : ¬ S r) : Rd s ext r n W' := ht.obj h hn
theorem Rd.text {s : ByteArray} {ext : Bool} {r : Nat} {n : Int} {W : World} (h : Rd s ext r n W) : W.cell? ⟨r, 0, none⟩ = some (.string s) := by rw [obj_cell h]; rfl
theorem Rd.at {s : ByteArray} {ext : Bool} {r : Nat} {n : Int} {W : World} (h : Rd s ext r n W) : W.cell? ⟨r, 1, none⟩ = some (.int .i64 n) := by rw [obj_cell h]; rfl
theorem Rd.ext {s : ByteArray} {ext : Bool} {r : Nat} {n : Int} {W : World} (h : Rd s ext r n W) : W.cell? ⟨r, 2, none⟩ = some (.bool ext) := by rw [obj_cell h]; rfl
theorem Rd.free {s : ByteArray} {ext : Bool} {r : Nat} {n : Int} {W : World} (h : Rd s ext r n W) (j : Nat) : W.frozen? ⟨r, j, none⟩ = false := frozen_of_row W r j _ _ h
theorem Rd.put {s : ByteArray} {ext : Bool} {r : Nat} {n : Int} {W : World} (h : Rd s ext r n W) (m : Int) : Rd s ext r m (W.setCell ⟨r, 1, none⟩ (.int .i64 m)) := by
  have := heap_setCell_same W r 1 _ _ (.int .i64 m) h
  exact this
theorem end0 {fn : Func} {R : Ending → World → Prop} {a : Act} {w : World} (hr : fn.results = #[]) (hd : a.defers = []) (hR : R (.returned (.tuple #[])) w) : bodyPost Try.prog fn R .normal a w := bodyPost_end (by simp [results, hr]) hd hR
/-- What a method that moves the reader leaves. -/
structure Mv (s : ByteArray) (ext : Bool) (r : Nat) (n : Int) (W W' : World) : Prop where
  rd : Rd s ext r n W'
  tu : Turned (fun k => k = r) W W'
theorem Mv.same {s : ByteArray} {ext : Bool} {r : Nat} {n : Int} {W W' : World} (h : Rd s ext r n W) (hb : Below W.heap.size W W') : Mv s ext r n W W' := ⟨h.stays hb, Turned.of_below hb⟩
theorem Mv.trans {s : ByteArray} {ext : Bool} {r : Nat} {n m : Int} {W W' W'' : World} (h : Mv s ext r n W W') (k : Mv s ext r m W' W'') : Mv s ext r m W W'' := ⟨k.rd, h.tu.trans k.tu fun _ _ h => h⟩
theorem Mv.put {s : ByteArray} {ext : Bool} {r : Nat} {n : Int} {W W' : World} (h : Mv s ext r n W W') (m : Int) : Mv s ext r m W (W'.setCell ⟨r, 1, none⟩ (.int .i64 m)) := ⟨h.rd.put m, h.tu.put rfl 1 _⟩
theorem Mv.below {s : ByteArray} {ext : Bool} {r : Nat} {n : Int} {W W' W'' : World} (h : Mv s ext r n W W') (hb : Below W'.heap.size W' W'') : Mv s ext r n W W'' := h.trans (Mv.same h.rd hb)
set_option maxRecDepth 100000 in
set_option maxHeartbeats 4000000 in
theorem blanks_m {s : ByteArray} {ext : Bool} {r : Nat} {n : Int} {w : World} (hz : s.size ≤ 2000) (h : Rd s ext r n w) : Calls Try.prog 11 #[.pointer (some ⟨r, 0, none⟩)] w fun e w' => e = .returned (.tuple #[]) ∧ Mv s ext r (blanksF s.data.toList n) w w' := by
  have HB := Lib.hid fun W => blanks_is s (by omega) n W
  have k0 := h.text
  have k1 := h.at
  have kf := h.free 1
  have HR := Lib.hid h
  clear h
  obtain ⟨m, hm⟩ : ∃ m, m = blanksF s.data.toList n := ⟨_, rfl⟩
  rw [← hm] at HB ⊢
  clear hm
  go_enter Try.func11, Try.ntmps11
  go_region_with (go_at_call 22; (with_reducible refine (HB.out _).mono ?_); rintro e w' ⟨rfl, rfl⟩)
  all_goals exact end0 rfl rfl ⟨rfl, ((Mv.same HR.out (Below.refl _ _)).put m).below ⟨rfl, rfl, rfl, Nat.le_refl _, fun _ _ => rfl⟩⟩
theorem oneI {s l : List UInt8} {k : Nat} {c : UInt8} (h : l[k]? = some c) : oneF s l (k : Int) = decide (0 ≤ Lib.indexByte s c) := by
  rw [oneF_at h, Lib.contains_iff_indexByte]
set_option maxRecDepth 100000 in
set_option maxHeartbeats 4000000 in
theorem follows_m {s : ByteArray} {ext : Bool} {r n : Nat} {w : World} (h : Rd s ext r (n : Int) w) (t : ByteArray) : Calls Try.prog 13 #[.pointer (some ⟨r, 0, none⟩), .string t] w fun e w' => e = .returned (.bool (oneF t.data.toList s.data.toList (n : Int))) ∧ Below w.heap.size w w' := by
  have k0 := h.text
  have k1 := h.at
  clear h
  by_cases h2 : n < s.size
  · have g2 : decide ((n : Int) < (s.size : Int)) = true := decide_eq_true (by omega)
    have g2n : decide (n < s.size) = true := decide_eq_true h2
    obtain ⟨c, hc⟩ : ∃ c, s.data.toList[n]? = some c := ⟨_, List.getElem?_eq_getElem (by simpa using h2)⟩
    have hat := tk_at_of rfl hc
    have HX := Lib.hid (st_index t (c.toNat : Int))
    rw [show ((c.toNat : Int)).toNat.toUInt8 = c by simp] at HX
    have HR := Lib.hid (oneI (s := t.data.toList) hc)
    obtain ⟨x, hx⟩ : ∃ x, x = Lib.indexByte t.data.toList c := ⟨_, rfl⟩
    rw [← hx] at HX HR
    have HQ := Lib.hid fun k => Calls.quiet_of_same (HX.out (w.drewN k))
    clear hx hc
    have h2i : (n : Int) < (s.size : Int) := by omega
    go_enter Try.func13, Try.ntmps13
    go_upto_region 1 with fail
    go_quiet (exact HQ.out _)
    go_wp2_with fail
    go_ret
    exact ⟨by rw [HR.out]; rfl, bD _ _⟩
  · have g2 : decide ((n : Int) < (s.size : Int)) = false := decide_eq_false (by omega)
    have g2n : decide (n < s.size) = false := decide_eq_false h2
    have HR := Lib.hid (oneF_big (s := t.data.toList) (l := s.data.toList) (i := n) (by rw [← tk_size_of rfl]; omega))
    clear h2
    go_enter Try.func13, Try.ntmps13
    go_upto_region 1 with fail
    go_quiet (fail)
    go_wp2_with fail
    go_ret
    exact ⟨by rw [HR.out]; rfl, bD _ _⟩
end Go.Proofs.Ytncbmdbfdjhkeaa

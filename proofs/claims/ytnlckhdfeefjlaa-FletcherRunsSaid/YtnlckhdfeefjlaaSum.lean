/-
  What Sum of package fletcher, and of the document's answer, return over bytes in memory; the live question answers true and touches nothing that was there. Condition: the bytes lie in memory.
-/
import Derived.Test.YtnlckhdfeefjlaaMore
import Derived.Lib.SlBytesConst
import Derived.Laws.BytesArg
namespace Go.Proofs.Ytnlckhdfeefjlaa
open Go.RowKit

theorem sum_any (A : Option Addr) (l : List UInt8) (cap : Nat) (w : World) (hb : BytesAt w A l) (hl : l.length ≤ maxLen) :
    Calls Try.prog 8 #[.slice A l.length cap] w fun e w' => e = .returned (.int .u32 (more 1 l)) ∧ w = w' := by
  have H : Hid (Calls Try.prog 10 #[.int .u32 1, .slice A l.length cap] w fun e w' => e = .returned (.int .u32 (more 1 l)) ∧ w = w') := Lib.hid (more_any 1 (by omega) A l cap w hb hl)
  clear hb
  go_enter Try.func8, Try.ntmps8
  go_wp2_with fail
  go_at_call 10
  (with_reducible refine (H.out).mono ?_)
  rintro e w' ⟨rfl, rfl⟩
  go_wp2_with fail
  go_ret
  exact ⟨rfl, rfl⟩

theorem refSum_any (A : Option Addr) (l : List UInt8) (cap : Nat) (w : World) (hb : BytesAt w A l) (hl : l.length ≤ maxLen) :
    Calls Try.prog 9 #[.slice A l.length cap] w fun e w' => e = .returned (.int .u32 (more 1 l)) ∧ w = w' := by
  have H : Hid (Calls Try.prog 11 #[.int .u32 1, .slice A l.length cap] w fun e w' => e = .returned (.int .u32 (more 1 l)) ∧ w = w') := Lib.hid (refMore_any 1 (by omega) A l cap w hb hl)
  clear hb
  go_enter Try.func9, Try.ntmps9
  go_wp2_with fail
  go_at_call 11
  (with_reducible refine (H.out).mono ?_)
  rintro e w' ⟨rfl, rfl⟩
  go_wp2_with fail
  go_ret
  exact ⟨rfl, rfl⟩

abbrev wiki : List UInt8 := [87, 105, 107, 105, 112, 101, 100, 105, 97]
theorem more_wiki : more 1 wiki = 300286872 := by decide
theorem more_nil : more 1 [] = 1 := by decide

theorem wiki_at (w : World) : BytesAt (w.alloc (.cells #[.int .u8 87, .int .u8 105, .int .u8 107, .int .u8 105, .int .u8 112, .int .u8 101, .int .u8 100, .int .u8 105, .int .u8 97] 5 (9, 10))) (some ⟨w.heap.size, 0, none⟩) wiki := by
  refine BytesAt.of_range fun i v hv => ?_
  rw [World.cell?_alloc_mark, Nat.zero_add, ← hv]
  show (bytesV wiki).toArray[i]? = _
  simp

theorem sum_wiki (w : World) : Calls Try.prog 8 #[.slice (some ⟨w.heap.size, 0, none⟩) 9 9] (w.alloc (.cells #[.int .u8 87, .int .u8 105, .int .u8 107, .int .u8 105, .int .u8 112, .int .u8 101, .int .u8 100, .int .u8 105, .int .u8 97] 5 (9, 10))) fun e w' => e = .returned (.int .u32 300286872) ∧ (w.alloc (.cells #[.int .u8 87, .int .u8 105, .int .u8 107, .int .u8 105, .int .u8 112, .int .u8 101, .int .u8 100, .int .u8 105, .int .u8 97] 5 (9, 10))) = w' := by
  have h := sum_any (some ⟨w.heap.size, 0, none⟩) wiki 9 _ (wiki_at w) (by decide)
  rw [more_wiki] at h
  exact h
theorem sum_nil (w : World) : Calls Try.prog 8 #[.slice none 0 0] w fun e w' => e = .returned (.int .u32 1) ∧ w = w' := by
  have h := sum_any none [] 0 w (BytesAt.none w _) (by decide)
  rw [more_nil] at h
  exact h

theorem alive_any (w : World) : Calls Try.prog 7 #[] w fun e w' => e = .returned (.bool true) ∧ Below w.heap.size w w' := by
  have kc := fun (C : Array Value) (n c : Nat) => Lib.run_convert_bytes_const (P := Try.prog) w 22 5 C n c Try.underlying22 Try.underlying5
  have H := Lib.hid (sum_wiki w)
  go_enter Try.func7, Try.ntmps7
  go_wp2_with fail
  go_at_call 8
  (with_reducible refine (H.out).mono ?_)
  rintro e w' ⟨rfl, rfl⟩
  go_wp2_with fail
  go_at_call 8
  (with_reducible refine (sum_nil _).mono ?_)
  rintro e w' ⟨rfl, rfl⟩
  go_wp2_with fail
  go_ret
  exact ⟨rfl, (Below.refl _ _).alloc (Nat.le_refl _) _⟩
end Go.Proofs.Ytnlckhdfeefjlaa

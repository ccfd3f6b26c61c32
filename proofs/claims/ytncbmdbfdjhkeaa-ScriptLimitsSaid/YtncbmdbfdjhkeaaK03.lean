import Derived.Test.YtncbmdbfdjhkeaaProg
import Derived.Test.YtncbmdbfdjhkeaaK02
import Derived.WalkKit
import Derived.Below
import Derived.Lib.Hide
import Derived.Deep.Draws
/-
  math/bits.OnesCount64, and whether a byte is in a set. Conditions: words of 64 bits, a byte.
-/
namespace Go.Proofs.Ytncbmdbfdjhkeaa
open Go.RowKit
theorem u64_and (a b : Nat) (ha : a < 18446744073709551616) (hb : b < 18446744073709551616) : bits .and .u64 (a : Int) (b : Int) = ((a &&& b : Nat) : Int) := bits_and_u64_nat a b ha hb
theorem u64_wrap (a : Nat) (ha : a < 18446744073709551616) : IntKind.u64.wrap (a : Int) = (a : Int) := by rw [IntKind.wrap_u64]; omega
theorem words_at (A : Nat → Nat) (q : Nat) (hq : q < 4) : [Value.int .u64 (A 0), Value.int .u64 (A 1), Value.int .u64 (A 2), Value.int .u64 (A 3)][q]? = some (Value.int .u64 (A q)) := by
  match q, hq with
  | 0, _ => rfl
  | 1, _ => rfl
  | 2, _ => rfl
  | 3, _ => rfl
theorem bit_test (x r : Nat) (hx : x < 18446744073709551616) : (bits .and .u64 ((x : Int) / 2 ^ r) 1 == 1) = x.testBit r := by
  have e : ((x : Int) / 2 ^ r) = ((x / 2 ^ r : Nat) : Int) := by simp
  have h := u64_and (x / 2 ^ r) 1 (Nat.lt_of_le_of_lt (Nat.div_le_self _ _) hx) (by decide)
  rw [e, show (1 : Int) = ((1 : Nat) : Int) by rfl, h, Nat.and_one_is_mod, Nat.testBit_eq_decide_div_mod_eq]
  rcases Nat.mod_two_eq_zero_or_one (x / 2 ^ r) with h2 | h2 <;> rw [h2] <;> rfl
theorem run_index_words (A : Nat → Nat) (k : Nat) (hk : k < 4) (w : World) : (Instr.index 34 (.agg #[.int .u64 (A 0), .int .u64 (A 1), .int .u64 (A 2), .int .u64 (A 3)]) (.int .i64 (k : Int))).run Try.prog w = .ok (.int .u64 (A k)) w := by
  match k, hk with
  | 0, _ => simp [Instr.index, go_sem]
  | 1, _ => simp [Instr.index, go_sem]
  | 2, _ => simp [Instr.index, go_sem]
  | 3, _ => simp [Instr.index, go_sem]
def wordsW (w : World) (a b c d : Nat) : World := (w.alloc (.cells #[.int .u64 a, .int .u64 b, .int .u64 c, .int .u64 d] 34)).alloc (.cells #[.int .u64 0, .int .u64 0, .int .u64 0, .int .u64 0] 34)
def NotRel (A : Nat → Nat) (w : World) (i : Value) (wr : World) : Prop :=
  (i = .int .i64 0 ∧ wr = wordsW w (A 0) (A 1) (A 2) (A 3)) ∨ (i = .int .i64 1 ∧ wr = wordsW w (notS A 0) (A 1) (A 2) (A 3)) ∨ (i = .int .i64 2 ∧ wr = wordsW w (notS A 0) (notS A 1) (A 2) (A 3)) ∨
  (i = .int .i64 3 ∧ wr = wordsW w (notS A 0) (notS A 1) (notS A 2) (A 3)) ∨ (i = .int .i64 4 ∧ wr = wordsW w (notS A 0) (notS A 1) (notS A 2) (notS A 3))
theorem not_word (A : Nat → Nat) (hA : OkS A) (k : Nat) : bits .xor .u64 (if IntKind.u64.signed = true then -1 else IntKind.u64.max) (A k : Int) = (notS A k : Int) := bits_xor_u64_nat 18446744073709551615 (A k) (by decide) (hA k)
set_option maxRecDepth 100000 in
theorem not_is (A : Nat → Nat) (hA : OkS A) (w : World) : Calls Try.prog 89 #[setV A] w fun e w' => e = .returned (setV (notS A)) ∧ Below w.heap.size w w' := by
  unfold setV
  have x0 := not_word A hA 0
  have x1 := not_word A hA 1
  have x2 := not_word A hA 2
  have x3 := not_word A hA 3
  have i0 := run_index_words A 0 (by decide)
  have i1 := run_index_words A 1 (by decide)
  have i2 := run_index_words A 2 (by decide)
  have i3 := run_index_words A 3 (by decide)
  simp only [Int.cast_ofNat_Int] at i0 i1 i2 i3
  go_enter Try.func89, Try.ntmps89
  go_wp2_with fail
  go_loopw [3, 4, 6] (fun _ _ i wr => NotRel A w i wr) (fun _ _ i _ => 4 - (intOf i).toNat)
  case atStart => exact .inl ⟨rfl, rfl⟩
  case round =>
    rcases hrel with ⟨rfl, rfl⟩ | ⟨rfl, rfl⟩ | ⟨rfl, rfl⟩ | ⟨rfl, rfl⟩ | ⟨rfl, rfl⟩ <;> unfold wordsW
    · go_wp2_with fail
      exact ⟨.inr (.inl ⟨rfl, rfl⟩), by decide⟩
    · go_wp2_with fail
      exact ⟨.inr (.inr (.inl ⟨rfl, rfl⟩)), by decide⟩
    · go_wp2_with fail
      exact ⟨.inr (.inr (.inr (.inl ⟨rfl, rfl⟩))), by decide⟩
    · go_wp2_with fail
      exact ⟨.inr (.inr (.inr (.inr ⟨rfl, rfl⟩))), by decide⟩
    · go_wp2_with fail
      refine bodyPost_ret (v := setV (notS A)) (by simp [results, Try.results89, go_sem, setV]) rfl ⟨rfl, (((Below.refl _ w).alloc (Nat.le_refl _) _).alloc (by simp) _)⟩
def words2W (B : Nat → Nat) (w : World) (a b c d : Nat) : World := ((w.alloc (.cells #[.int .u64 a, .int .u64 b, .int .u64 c, .int .u64 d] 34)).alloc (.cells #[.int .u64 (B 0), .int .u64 (B 1), .int .u64 (B 2), .int .u64 (B 3)] 34)).alloc (.cells #[.int .u64 0, .int .u64 0, .int .u64 0, .int .u64 0] 34)
def BothRel (A B : Nat → Nat) (w : World) (i : Value) (wr : World) : Prop :=
  (i = .int .i64 0 ∧ wr = words2W B w (A 0) (A 1) (A 2) (A 3)) ∨ (i = .int .i64 1 ∧ wr = words2W B w (bothS A B 0) (A 1) (A 2) (A 3)) ∨ (i = .int .i64 2 ∧ wr = words2W B w (bothS A B 0) (bothS A B 1) (A 2) (A 3)) ∨
  (i = .int .i64 3 ∧ wr = words2W B w (bothS A B 0) (bothS A B 1) (bothS A B 2) (A 3)) ∨ (i = .int .i64 4 ∧ wr = words2W B w (bothS A B 0) (bothS A B 1) (bothS A B 2) (bothS A B 3))
theorem both_word (A B : Nat → Nat) (hA : OkS A) (hB : OkS B) (k : Nat) : bits .or .u64 (A k : Int) (B k : Int) = (bothS A B k : Int) := bits_or_u64_nat (A k) (B k) (hA k) (hB k)
set_option maxRecDepth 100000 in
theorem both_is (A B : Nat → Nat) (hA : OkS A) (hB : OkS B) (w : World) : Calls Try.prog 94 #[setV A, setV B] w fun e w' => e = .returned (setV (bothS A B)) ∧ Below w.heap.size w w' := by
  unfold setV
  have x0 := both_word A B hA hB 0
  have x1 := both_word A B hA hB 1
  have x2 := both_word A B hA hB 2
  have x3 := both_word A B hA hB 3
  have i0 := run_index_words B 0 (by decide)
  have i1 := run_index_words B 1 (by decide)
  have i2 := run_index_words B 2 (by decide)
  have i3 := run_index_words B 3 (by decide)
  simp only [Int.cast_ofNat_Int] at i0 i1 i2 i3
  clear hA hB
  go_enter Try.func94, Try.ntmps94
  go_wp2_with fail
  go_loopw [5, 6, 8] (fun _ _ i wr => BothRel A B w i wr) (fun _ _ i _ => 4 - (intOf i).toNat)
  case atStart => exact .inl ⟨rfl, rfl⟩
  case round =>
    rcases hrel with ⟨rfl, rfl⟩ | ⟨rfl, rfl⟩ | ⟨rfl, rfl⟩ | ⟨rfl, rfl⟩ | ⟨rfl, rfl⟩ <;> unfold words2W
    · go_wp2_with fail
      exact ⟨.inr (.inl ⟨rfl, rfl⟩), by decide⟩
    · go_wp2_with fail
      exact ⟨.inr (.inr (.inl ⟨rfl, rfl⟩)), by decide⟩
    · go_wp2_with fail
      exact ⟨.inr (.inr (.inr (.inl ⟨rfl, rfl⟩))), by decide⟩
    · go_wp2_with fail
      exact ⟨.inr (.inr (.inr (.inr ⟨rfl, rfl⟩))), by decide⟩
    · go_wp2_with fail
      refine bodyPost_ret (v := setV (bothS A B)) (by simp [results, Try.results94, go_sem, setV]) rfl ⟨rfl, ((((Below.refl _ w).alloc (Nat.le_refl _) _).alloc (by simp) _).alloc (by simp; omega) _)⟩
end Go.Proofs.Ytncbmdbfdjhkeaa

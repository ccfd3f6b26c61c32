/-
  The walk of FletcherRuns: it returns true and touches nothing that was there. No condition.
-/
import Derived.Test.YtnlckhdfeefjlaaSum
import Derived.Lib.SmallJoins
import Derived.Laws.MakeOwn
namespace Go.Proofs.Ytnlckhdfeefjlaa
open Go.RowKit

/-- The sum of a run of one byte. -/
def runSum (c : Nat) : Nat → Nat
  | 0 => 0
  | n + 1 => runSum c n + (1 + (n + 1) * c)
theorem runSum_two (c : Nat) : ∀ n, 2 * runSum c n = 2 * n + c * n * (n + 1)
  | 0 => by simp [runSum]
  | n + 1 => by
    have := runSum_two c n
    unfold runSum
    grind
theorem runSum_eq (c n : Nat) : runSum c n = n + c * n * (n + 1) / 2 := by
  have := runSum_two c n
  omega
theorem fwalk_run (c : UInt8) : ∀ n, fwalk (1, 0) (List.replicate n c) = ((1 + n * c.toNat) % 65521, runSum c.toNat n % 65521)
  | 0 => by simp [fwalk, runSum]
  | n + 1 => by
    rw [List.replicate_succ', fwalk_append, fwalk_run c n]
    rw [show runSum c.toNat (n + 1) = runSum c.toNat n + (1 + (n + 1) * c.toNat) from rfl]
    have e : 1 + (n + 1) * c.toNat = 1 + n * c.toNat + c.toNat := by rw [Nat.add_mul]; omega
    rw [e]
    simp [fwalk, fst1, Nat.add_mod]

theorem heap_stored (w : World) (g : Nat) (cs : Array Value) (t : TypeId) (fr : Nat × Nat) (h : w.heap[g]? = some (.cells cs t fr)) (i : Nat) (v : Value) : (w.setCell ⟨g, i, none⟩ v).heap[g]? = some (.cells (cs.setIfInBounds i v) t fr) := Go.Joins.block_setCell h v
theorem info_u8 : (Try.prog.info? 5).map (fun i => (i.zero, i.size, i.bytes)) = some (some (.int .u8 0), 1, 1) := by kernel_rfl
theorem run_make_bytes (n : Nat) (hn : n ≤ 16777216) (w : World) : ∃ C : Array Value, C.size = n ∧ (Instr.makeSlice 22 (.int .i64 n) (.int .i64 n)).run Try.prog w = .ok (.slice (some ⟨w.heap.size, 0, none⟩) n n) (w.alloc (.cells C 5)) := by
  cases hi : Try.prog.info? 5 with
  | none => have := info_u8; rw [hi] at this; cases this
  | some i =>
    have := info_u8
    rw [hi] at this
    simp only [Option.map_some, Option.some.injEq, Prod.mk.injEq] at this
    obtain ⟨h1, h2, h3⟩ := this
    have hr := run_make (P := Try.prog) w 22 5 i _ Try.underlying22 hi h1 .i64 .i64 n n (by omega) (Int.le_refl _) (by rw [h3]; omega) (by omega)
    simp only [Int.toNat_natCast] at hr
    exact ⟨_, by rw [size_madeCells, h2, Nat.mul_one], hr⟩

/-- Block g has n cells; the first k are the byte c. -/
def RunRel (w : World) (g n k : Nat) (c : UInt8) : Prop := ∃ C : Array Value, w.heap[g]? = some (.cells C 5 (0, 0)) ∧ C.size = n ∧ ∀ j, j < k → C[j]? = some (byteV c)

theorem RunRel.step {w : World} {g n k : Nat} {c : UInt8} (h : RunRel w g n k c) (hk : k < n) : RunRel (w.setCell ⟨g, k, none⟩ (.int .u8 c.toNat)) g n (k + 1) c := by
  obtain ⟨C, h1, h2, h3⟩ := h
  refine ⟨_, heap_stored w g C _ _ h1 k _, by simpa using h2, fun j hj => ?_⟩
  by_cases e : j = k
  · subst e
    simp [h2, hk, byteV]
  · rw [Array.getElem?_setIfInBounds_ne (by omega)]
    exact h3 j (by omega)
theorem RunRel.bytes {w : World} {g n : Nat} {c : UInt8} (h : RunRel w g n n c) : BytesAt w (some ⟨g, 0, none⟩) (List.replicate n c) := by
  obtain ⟨C, h1, h2, h3⟩ := h
  intro i b hb
  obtain ⟨hi, he⟩ := List.getElem?_eq_some_iff.1 hb
  simp at hi he
  subst he
  exact ⟨g, 0, rfl, by rw [Go.Joins.cell_of_block h1, Nat.zero_add, h3 i hi]⟩

theorem sum_run (w : World) (g n : Nat) (c : UInt8) (hn : n ≤ 3000) (h : RunRel w g n n c) :
    Calls Try.prog 8 #[.slice (some ⟨g, 0, none⟩) n n] w fun e w' => e = .returned (.int .u32 (more 1 (List.replicate n c))) ∧ w = w' := by
  have := sum_any (some ⟨g, 0, none⟩) (List.replicate n c) n w h.bytes (by simp [maxLen]; omega)
  rw [List.length_replicate] at this
  exact this

set_option maxRecDepth 100000 in
set_option maxHeartbeats 1000000 in
theorem runs_in (c : UInt8) (n : Nat) (hn : n ≤ 3000) (w : World) :
    Calls Try.prog 6 #[.int .u8 c.toNat, .int .i64 n] w fun e w' => e = .returned (.bool true) ∧ Below w.heap.size w w' := by
  obtain ⟨C, hC, hmk⟩ := run_make_bytes n (by omega) w
  have HS := Lib.hid fun w g => sum_run w g n c hn
  have HC := Lib.hid hC
  clear hC
  go_enter Try.func6, Try.ntmps6
  go_wp2_with fail
  go_loopw [6] (fun i wr => ∃ k : Nat, k ≤ n ∧ i = .int .i64 k ∧ RunRel wr w.heap.size n k c ∧ Below w.heap.size w wr) (fun i _ => n - (intOf i).toNat)
  case atStart => exact ⟨0, Nat.zero_le _, rfl, ⟨C, heap_alloc_new w _, HC.out, fun j hj => by omega⟩, (Below.refl _ _).alloc (Nat.le_refl _) _⟩
  case round =>
    obtain ⟨k, hk, rfl, hr, hbel⟩ := hrel
    by_cases hlt : k < n
    · have HR := Lib.hid (hr.step hlt)
      obtain ⟨C1, hg1, hs1, _⟩ := hr
      have hcell := (Go.Joins.cell_of_block hg1 k).trans (Array.getElem?_eq_getElem (by omega))
      have hfr := Go.Joins.unfrozen_of_block hg1 k
      clear hg1
      go_wp2
      go_roundw
      case rel => exact ⟨k + 1, by omega, by go_num, HR.out, hbel.setCell (Nat.le_refl _) _⟩
      case measure => simp [intOf]; omega
    · have ek : k = n := by omega
      have H := Lib.hid (HS.out wr w.heap.size (by rw [ek] at hr; exact hr))
      obtain ⟨s, es⟩ : ∃ s, s = more 1 (List.replicate n c) := ⟨_, rfl⟩
      rw [← es] at H
      obtain ⟨m, em⟩ : ∃ m, m = n * c.toNat := ⟨_, rfl⟩
      obtain ⟨m2, em2⟩ : ∃ m2, m2 = m * (n + 1) := ⟨_, rfl⟩
      have hc256 := c.toNat_lt
      have hm : m ≤ 765000 := by rw [em]; exact Nat.le_trans (Nat.mul_le_mul hn (Nat.le_of_lt_succ hc256)) (by omega)
      have hm2 : m2 ≤ 2295765000 := by rw [em2]; exact Nat.le_trans (Nat.mul_le_mul hm (Nat.succ_le_succ hn)) (by omega)
      have es2 : s = (n + m2 / 2) % 65521 * 65536 + (1 + m) % 65521 := by
        rw [es]
        unfold more
        rw [show fbegin 1 = (1, 0) from rfl, fwalk_run, runSum_eq, Nat.mul_comm c.toNat n, ← em, ← em2]
        rfl
      have q1 : (n : Int) * (c.toNat : Int) = (m : Int) := by rw [em]; simp
      have q2 : (c.toNat : Int) * (n : Int) = (m : Int) := by rw [em, Nat.mul_comm]; simp
      have q3 : (m : Int) * ((n : Int) + 1) = (m2 : Int) := by rw [em2]; simp
      have l1 : s < 4294967296 := by omega
      have d1 : ((s : Int) % 65536 == (1 + (m : Int)) % 65521) = true := by simp; omega
      have d2 : ((s : Int) / 65536 == ((n : Int) + (m2 : Int) / 2) % 65521) = true := by simp; omega
      clear hr es em em2 es2
      go_wp2_with fail
      go_at_call 8
      (with_reducible refine (H.out).mono ?_)
      rintro e w' ⟨rfl, rfl⟩
      go_wp2_with fail
      go_at_call 7
      (with_reducible refine (alive_any _).mono ?_)
      rintro e w' ⟨rfl, hb2⟩
      go_wp2_with fail
      go_ret
      exact ⟨rfl, hbel.trans (hb2.mono hbel.size)⟩

set_option maxHeartbeats 400000 in
theorem runs_out (c : UInt8) (n : Int) (w : World) (h : n < 0 ∨ 3000 < n) :
    Calls Try.prog 6 #[.int .u8 c.toNat, .int .i64 n] w fun e w' => e = .returned (.bool true) ∧ Below w.heap.size w w' := by
  by_cases h2 : n < 0
  · clear h
    go_enter Try.func6, Try.ntmps6
    go_wp2_with (go_at_call 7; (with_reducible refine (alive_any _).mono ?_); rintro e w' ⟨rfl, hb2⟩)
    go_ret
    exact ⟨rfl, hb2⟩
  · have h3 : 3000 < n := by omega
    clear h
    go_enter Try.func6, Try.ntmps6
    go_wp2_with (go_at_call 7; (with_reducible refine (alive_any _).mono ?_); rintro e w' ⟨rfl, hb2⟩)
    go_ret
    exact ⟨rfl, hb2⟩

theorem runs_any (c : UInt8) (n : Int) (w : World) :
    Calls Try.prog 6 #[.int .u8 c.toNat, .int .i64 n] w fun e w' => e = .returned (.bool true) ∧ Below w.heap.size w w' := by
  by_cases h : n < 0 ∨ 3000 < n
  · exact runs_out c n w h
  · obtain ⟨k, rfl⟩ := Int.eq_ofNat_of_zero_le (show 0 ≤ n by omega)
    exact runs_in c k (by omega) w
end Go.Proofs.Ytnlckhdfeefjlaa

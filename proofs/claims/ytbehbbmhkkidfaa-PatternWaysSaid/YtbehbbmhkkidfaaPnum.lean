/-
  The program's number and interval. Conditions: those named at each law.
  The program's tokens: brackets, intervals, escapes; the token that a basic and an extended pattern begins with. Conditions: Bracket's answers are told by a function of the text; a text of at most 4096 bytes; the world holds what strings.Index asks.
-/
import Derived.Test.YtbehbbmhkkidfaaPtok
import Derived.Lib.ConvBytes
namespace Go.Proofs.Ytbehbbmhkkidfaa
open Go.RowKit Go.Deep

theorem figs_at {l : List UInt8} {c : UInt8} {i n : Nat} (h : l[i]? = some c) : figs (l.drop i) n = if c < 48 ∨ 57 < c then none else figs (l.drop (i + 1)) (10 * n + (c.toNat - 48)) := by
  have hi := (List.getElem?_eq_some_iff.1 h).1
  rw [List.drop_eq_getElem_cons hi]
  rw [List.getElem?_eq_getElem hi] at h
  injection h with h
  rw [h]
  rfl
theorem fig_facts (v n i d : Nat) (h48 : 48 ≤ v) (h57 : v ≤ 57) (hd : d = v - 48) (hn : n < 1000) (hi : i < 3) :
    IntKind.u8.wrap ((v : Int) - 48) = (d : Int) ∧ wrap64 (d : Int) = (d : Int) ∧ wrap64 (10 * (n : Int)) = 10 * (n : Int) ∧ wrap64 (10 * (n : Int) + (d : Int)) = 10 * (n : Int) + (d : Int) ∧ wrap64 ((i : Int) + 1) = (i : Int) + 1 := by
  refine ⟨?_, IntWalk.wrap64_in _ (by omega), IntWalk.wrap64_in _ (by omega), IntWalk.wrap64_in _ (by omega), IntWalk.wrap64_in _ (by omega)⟩
  rw [show (v : Int) - 48 = (d : Int) by omega]
  show ((d : Int) % 256) = (d : Int)
  omega
theorem num_next {l : List UInt8} {n d i : Nat} (h1 : n < 10 ^ i) (h2 : d ≤ 9) (h3 : figs l 0 = figs (l.drop i) n) (h4 : figs (l.drop i) n = figs (l.drop (i + 1)) (10 * n + d)) : 10 * n + d < 10 ^ (i + 1) ∧ figs l 0 = figs (l.drop (i + 1)) (10 * n + d) := by
  refine ⟨?_, by rw [h3, h4]⟩
  rw [Nat.pow_succ]
  omega
set_option maxRecDepth 100000 in
set_option maxHeartbeats 1000000 in
theorem number_is (s : ByteArray) (w : World) : Calls Try.prog 41 #[.string s] w fun e w' => e = .returned (.tuple #[.int .i64 ((numP s.data.toList).1 : Int), .bool (numP s.data.toList).2]) ∧ Below w.heap.size w w' := by
  have hem := isEmpty_of (s := s)
  have hsl : s.data.toList.length = s.size := by simp
  by_cases h0 : s.data.toList = []
  · have hn : numP s.data.toList = (0, false) := by unfold numP; rw [if_pos (.inl h0)]
    rw [hn]
    have he : s.toList.isEmpty = true := by rw [hem, h0]; rfl
    clear hn hem hsl h0
    go_enter Try.func41, Try.ntmps41
    go_wp2_with fail
    go_ret2
    exact ⟨rfl, Below.refl _ _⟩
  · have he : s.toList.isEmpty = false := by rw [hem]; simpa using h0
    have hp : 0 < s.size := by
      rw [← hsl]
      exact List.length_pos_iff.2 h0
    by_cases h3 : 3 < s.size
    · have hn : numP s.data.toList = (0, false) := by unfold numP; rw [if_pos (.inr (by omega))]
      rw [hn]
      have g : decide (3 < (s.size : Int)) = true := decide_eq_true (by omega)
      have gn : decide (3 < s.size) = true := decide_eq_true h3
      clear hn hem hsl h0 hp h3
      go_enter Try.func41, Try.ntmps41
      go_wp2_with fail
      go_ret2
      exact ⟨rfl, Below.refl _ _⟩
    · have hn : numP s.data.toList = match figs s.data.toList 0 with | none => (0, false) | some n => (n, decide (n ≤ 20)) := by
        unfold numP
        rw [if_neg (fun h => h.elim h0 (fun h => by omega))]
        cases figs s.data.toList 0 <;> rfl
      have HN := Lib.hid hn
      have g : decide (3 < (s.size : Int)) = false := decide_eq_false (by omega)
      have gn : decide (3 < s.size) = false := decide_eq_false h3
      have hcv := Lib.run_convert_string_bytes (P := Try.prog) w 9 57 5 s Try.underlying9 Try.underlying57 Try.underlying5
      have hcell : ∀ j (h : j < s.size), (Lib.bytesWorld w 5 s).cell? ⟨w.heap.size, j, none⟩ = some (.int .u8 (s[j].toNat : Int)) := fun j h => by
        have h1 := Lib.bytesWorld_cell w 5 s j h
        have h2 : s.data.toList.getD j 0 = s[j] := by
          rw [List.getD_eq_getElem?_getD, List.getElem?_eq_getElem (by simpa using h)]
          rfl
        rw [h2] at h1
        exact h1
      have hbel : Below w.heap.size w (Lib.bytesWorld w 5 s) := ⟨rfl, rfl, rfl, by rw [Lib.bytesWorld_size]; omega, fun j hj => Lib.bytesWorld_at_old w 5 s j hj⟩
      obtain ⟨cap, ecap⟩ : ∃ c, c = grownCap w s.size 0 5 := ⟨_, rfl⟩
      obtain ⟨WB, eWB⟩ : ∃ W, W = Lib.bytesWorld w 5 s := ⟨_, rfl⟩
      rw [← ecap, ← eWB] at hcv
      rw [← eWB] at hcell hbel
      have HC := Lib.hid hcell
      have HB := Lib.hid hbel
      have H3 := Lib.hid (show s.size ≤ 3 by omega)
      obtain ⟨l, el⟩ : ∃ l, l = s.data.toList := ⟨_, rfl⟩
      rw [← el] at HN hsl ⊢
      have HL := Lib.hid (show ∀ (i : Nat) (h : i < s.size), l[i]? = some s[i] from fun i h => by
        rw [el]
        simp [h]
        rfl)
      have HSL := Lib.hid hsl
      clear hcell hbel ecap eWB hn hem h0 h3 el hsl
      go_enter Try.func41, Try.ntmps41
      go_wp2_with fail
      clear hcv
      go_loop [4, 17] (fun nv iv => ∃ n i : Nat, nv = .int .i64 (n : Int) ∧ iv = .int .i64 (i : Int) ∧ i ≤ s.size ∧ Hid (n < 10 ^ i ∧ figs l 0 = figs (l.drop i) n)) (fun _ iv => s.size - (intOf iv).toNat)
      case atStart => exact ⟨0, 0, rfl, rfl, Nat.zero_le _, Lib.hid ⟨by decide, rfl⟩⟩
      case round =>
        obtain ⟨n, i, rfl, rfl, hi, HI⟩ := hrel
        have hpow : 10 ^ i ≤ 1000 := Nat.le_trans (Nat.pow_le_pow_right (by decide) (show i ≤ 3 by have := H3.out; omega)) (by decide)
        have hn1 : n < 1000 := by have := HI.out.1; omega
        by_cases hlt : i < s.size
        · have hiI : (i : Int) < (s.size : Int) := by omega
          have hi0 : (0 : Int) ≤ (i : Int) := by omega
          have kc0 : WB.cell? ⟨w.heap.size, 0 + i, none⟩ = some (.int .u8 (s[i].toNat : Int)) := by rw [Nat.zero_add]; exact HC.out i hlt
          have kc1 : WB.cell? ⟨w.heap.size, i, none⟩ = some (.int .u8 (s[i].toNat : Int)) := HC.out i hlt
          have hfg := figs_at (n := n) (HL.out i hlt)
          have hv8 : s[i].toNat < 256 := UInt8.toNat_lt _
          have hc1 : (s[i] < 48 ∨ 57 < s[i]) ↔ (s[i].toNat < 48 ∨ 57 < s[i].toNat) := by
            rw [UInt8.lt_iff_toNat_lt, UInt8.lt_iff_toNat_lt]
            rfl
          obtain ⟨v, ev⟩ : ∃ v : Nat, v = s[i].toNat := ⟨_, rfl⟩
          rw [← ev] at kc0 kc1 hc1 hfg hv8
          by_cases hbad : v < 48 ∨ 57 < v
          · have HN2 := Lib.hid (show numP l = (0, false) by rw [HN.out, HI.out.2, hfg, if_pos (hc1.2 hbad)])
            rcases hbad with h48 | h57
            · have g1 : decide ((v : Int) < 48) = true := decide_eq_true (by omega)
              have g1n : decide (v < 48) = true := decide_eq_true h48
              clear h48 ev hfg hc1 hpow hn1
              go_wp2_with fail
              go_ret2
              exact ⟨by rw [HN2.out]; rfl, HB.out⟩
            · have g1 : decide ((v : Int) < 48) = false := decide_eq_false (by omega)
              have g1n : decide (v < 48) = false := decide_eq_false (by omega)
              have g2 : decide (57 < (v : Int)) = true := decide_eq_true (by omega)
              have g2n : decide (57 < v) = true := decide_eq_true h57
              clear h57 ev hfg hc1 hpow hn1
              go_wp2_with fail
              go_ret2
              exact ⟨by rw [HN2.out]; rfl, HB.out⟩
          · have h48 : 48 ≤ v := by omega
            have h57 : v ≤ 57 := by omega
            rw [if_neg (fun h => hbad (hc1.1 h))] at hfg
            have g1 : decide ((v : Int) < 48) = false := decide_eq_false (by omega)
            have g1n : decide (v < 48) = false := decide_eq_false (by omega)
            have g2 : decide (57 < (v : Int)) = false := decide_eq_false (by omega)
            have g2n : decide (57 < v) = false := decide_eq_false (by omega)
            obtain ⟨d, ed⟩ : ∃ d, d = v - 48 := ⟨_, rfl⟩
            rw [← ed] at hfg
            have hd9 : d ≤ 9 := by omega
            have HI1 := Lib.hid (show i + 1 ≤ s.size from hlt)
            have HM := Lib.hid (show s.size - (i + 1) < s.size - i by omega)
            obtain ⟨q1, q2, q3, q4, q5⟩ := fig_facts v n i d h48 h57 ed hn1 (by have := H3.out; omega)
            have HNX := Lib.hid (num_next HI.out.1 hd9 HI.out.2 hfg)
            clear h48 h57 hbad ev ed hfg hc1 hpow hn1 hd9 hv8
            go_wp2_with fail
            go_round
            case rel => exact ⟨10 * n + d, i + 1, by rw [q4, Int.natCast_add, Int.natCast_mul]; rfl, by rw [q5]; rfl, HI1.out, HNX⟩
            case measure => rw [q5]; exact HM.out
        · have hie : i = s.size := by omega
          have hin : ¬ (i : Int) < (s.size : Int) := by omega
          have HN2 := Lib.hid (show numP l = (n, decide (n ≤ 20)) by
            rw [HN.out, HI.out.2, List.drop_of_length_le (by rw [HSL.out]; omega)]
            rfl)
          have HD := Lib.hid (show decide ((n : Int) ≤ 20) = decide (n ≤ 20) by
            by_cases h : n ≤ 20
            · rw [decide_eq_true h, decide_eq_true (by omega)]
            · rw [decide_eq_false h, decide_eq_false (by omega)])
          clear hie hlt hi hpow hn1
          go_wp2_with fail
          go_ret2
          exact ⟨by rw [HN2.out]; simp [← HD.out], HB.out⟩
end Go.Proofs.Ytbehbbmhkkidfaa

namespace Go.Proofs.Ytbehbbmhkkidfaa
open Go.RowKit Go.Deep

/-- What Bracket answers, told by a function of the text. -/
def bkV : Option ((Nat → Nat) × Nat) → Value
  | none => .tuple #[.agg #[.int .u64 0, .int .u64 0, .int .u64 0, .int .u64 0], .int .i64 0, .int .i64 81]
  | some (S, n) => .tuple #[.agg #[.int .u64 (S 0), .int .u64 (S 1), .int .u64 (S 2), .int .u64 (S 3)], .int .i64 (n : Int), .int .i64 0]
structure BkIs (bk : BkF) : Prop where
  is : ∀ (s : ByteArray) (W : World), s.size ≤ 4096 → MaxAt W → Calls Try.prog 38 #[.string s] W fun e w' => e = .returned (bkV (bk s.data.toList)) ∧ Below W.heap.size W w'
  len : ∀ (l : List UInt8) S n, l.length ≤ 4096 → bk l = some (S, n) → 1 ≤ n ∧ n ≤ l.length
theorem drop_one {s : ByteArray} {c : UInt8} {r : List UInt8} (h : s.data.toList = c :: r) : (s.extract 1 s.size).data.toList = r := by rw [drop_of, h]; rfl
/-- A set's new box. -/
theorem boxS {w w1 : World} {v0 v1 v2 v3 : Value} {t : TypeId} (hw : w1 = w.alloc (.cells #[v0, v1, v2, v3] t)) : w1.cell? ⟨w.heap.size, 0, none⟩ = some v0 ∧ w1.cell? ⟨w.heap.size, 1, none⟩ = some v1 ∧ w1.cell? ⟨w.heap.size, 2, none⟩ = some v2 ∧ w1.cell? ⟨w.heap.size, 3, none⟩ = some v3 := by
  subst hw
  refine ⟨?_, ?_, ?_, ?_⟩ <;> simp [go_sem]
set_option maxRecDepth 100000 in
set_option maxHeartbeats 1000000 in
theorem bracket_tok {bk : BkF} (hbk : BkIs bk) (s : ByteArray) {c : UInt8} {r : List UInt8} (hl : s.data.toList = c :: r) (hz : s.size ≤ 4096) (w : World) (hM : MaxAt w) : Calls Try.prog 28 #[.string s] w (TokAns (brkT bk r) w) := by
  have hs : 1 ≤ s.size := by rw [size_cons hl]; omega
  have hsi : (1 : Int) ≤ (s.size : Int) := by omega
  have hb := hbk.is (s.extract 1 s.size) (w.alloc (.cells #[.int .i64 0, .int .u64 0, .int .u64 0, .int .u64 0, .int .u64 0, .int .i64 0, .int .i64 0] 60)) (by simp; omega) (hM.below (bA w _))
  rw [drop_one hl] at hb
  unfold TokAns brkT
  cases hr : bk r with
  | none =>
    rw [hr] at hb
    have HB0 := Lib.hid hb
    simp only [Tok.v, Tok.none, noS]
    clear hbk hl hz hM hr hb
    unfold bkV at HB0
    go_enter Try.func28, Try.ntmps28
    go_wp2_with fail
    go_at_call 38
    refine HB0.out.mono ?_
    rintro e w1 ⟨rfl, hb1⟩
    obtain ⟨⟨k0, k1, k2, k3, k4, k5, k6⟩, f0, f1, f2, f3, f4, f5, f6⟩ := box7 hb1 (by simp)
    have HB := Lib.hid ((bA w _).trans (hb1.mono (by simp)))
    have hsz : w.heap.size < w1.heap.size := Nat.lt_of_lt_of_le (by simp) hb1.size
    clear hb1
    go_wp2_with fail
    refine bodyPost_ret (v := .tuple #[.agg #[.int .i64 0, .int .u64 0, .int .u64 0, .int .u64 0, .int .u64 0, .int .i64 0, .int .i64 0], .int .i64 0]) (by simp [results, Try.results28, go_sem, k0, k1, k2, k3, k4, k5, k6, hsz]) rfl ⟨rfl, ?_⟩
    exact (by first | exact (below7 HB.out (Nat.le_refl _) _ _ _ _ _ _ _).alloc (by simp [World.setCell]; omega) _ | exact below7 (HB.out.alloc (by omega) _) (Nat.le_refl _) _ _ _ _ _ _ _)
  | some x =>
    obtain ⟨S, n⟩ := x
    rw [hr] at hb
    have hn := hbk.len r S n (by have := size_cons hl; omega) hr
    have hn2 : n ≤ 4096 := by have := size_cons hl; omega
    have HB0 := Lib.hid hb
    have hw1 : wrap64 (1 + (n : Int)) = ((1 + n : Nat) : Int) := by rw [IntWalk.wrap64_in _ (by omega)]; omega
    clear hbk hl hz hM hr hb hn hn2
    unfold bkV at HB0
    go_enter Try.func28, Try.ntmps28
    go_wp2_with fail
    go_at_call 38
    refine HB0.out.mono ?_
    rintro e w1 ⟨rfl, hb1⟩
    obtain ⟨⟨k0, k1, k2, k3, k4, k5, k6⟩, f0, f1, f2, f3, f4, f5, f6⟩ := box7 hb1 (by simp)
    have HB := Lib.hid ((bA w _).trans (hb1.mono (by simp)))
    have hsz : w.heap.size < w1.heap.size := Nat.lt_of_lt_of_le (by simp) hb1.size
    clear hb1
    go_wp2_with fail
    refine bodyPost_ret (v := .tuple #[.agg #[.int .i64 1, .int .u64 (S 0), .int .u64 (S 1), .int .u64 (S 2), .int .u64 (S 3), .int .i64 0, .int .i64 0], .int .i64 ((1 + n : Nat) : Int)]) (by simp [results, Try.results28, go_sem, k0, k1, k2, k3, k4, k5, k6, hsz, hw1]) rfl ⟨rfl, ?_⟩
    exact (by first | exact (below7 HB.out (Nat.le_refl _) _ _ _ _ _ _ _).alloc (by simp [World.setCell]; omega) _ | exact below7 (HB.out.alloc (by omega) _) (Nat.le_refl _) _ _ _ _ _ _ _)
end Go.Proofs.Ytbehbbmhkkidfaa

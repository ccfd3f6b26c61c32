import Derived.Test.YtncbmdbfdjhkeaaK07
import Derived.Test.YtncbmdbfdjhkeaaK21
import Derived.Test.YtncbmdbfdjhkeaaK20
import Derived.Lib.ConvBytes
import Derived.RegionTactic
import Derived.RegionCalls
/-
  The program's tokens: the token that a text begins with. Conditions: Bracket's answers are told by a function of the text; a text of at most 4096 bytes.
-/
namespace Go.Proofs.Ytncbmdbfdjhkeaa
open Go.RowKit Go.Deep
theorem box7 {w w1 : World} {n : Nat} {v0 v1 v2 v3 v4 v5 v6 : Value} {t : TypeId} (h : Below n (w.alloc (.cells #[v0, v1, v2, v3, v4, v5, v6] t)) w1) (hn : w.heap.size < n) :
    (w1.cell? ⟨w.heap.size, 0, none⟩ = some v0 ∧ w1.cell? ⟨w.heap.size, 1, none⟩ = some v1 ∧ w1.cell? ⟨w.heap.size, 2, none⟩ = some v2 ∧ w1.cell? ⟨w.heap.size, 3, none⟩ = some v3 ∧ w1.cell? ⟨w.heap.size, 4, none⟩ = some v4 ∧ w1.cell? ⟨w.heap.size, 5, none⟩ = some v5 ∧ w1.cell? ⟨w.heap.size, 6, none⟩ = some v6) ∧
    (w1.frozen? ⟨w.heap.size, 0, none⟩ = false ∧ w1.frozen? ⟨w.heap.size, 1, none⟩ = false ∧ w1.frozen? ⟨w.heap.size, 2, none⟩ = false ∧ w1.frozen? ⟨w.heap.size, 3, none⟩ = false ∧ w1.frozen? ⟨w.heap.size, 4, none⟩ = false ∧ w1.frozen? ⟨w.heap.size, 5, none⟩ = false ∧ w1.frozen? ⟨w.heap.size, 6, none⟩ = false) := by
  refine ⟨⟨?_, ?_, ?_, ?_, ?_, ?_, ?_⟩, ?_, ?_, ?_, ?_, ?_, ?_, ?_⟩
  all_goals first | (rw [h.cell hn]; simp [go_sem]) | (rw [h.frozen hn]; simp [go_sem])
theorem below7 {B : Nat} {w w1 : World} (h : Below B w w1) {b : Nat} (hb : B ≤ b) (v0 v1 v2 v3 v4 v5 v6 : Value) : Below B w (((((((w1.setCell ⟨b, 0, none⟩ v0).setCell ⟨b, 1, none⟩ v1).setCell ⟨b, 2, none⟩ v2).setCell ⟨b, 3, none⟩ v3).setCell ⟨b, 4, none⟩ v4).setCell ⟨b, 5, none⟩ v5).setCell ⟨b, 6, none⟩ v6) :=
  ((((((h.setCell hb _).setCell hb _).setCell hb _).setCell hb _).setCell hb _).setCell hb _).setCell hb _
theorem bA (w : World) (o : Obj) : Below w.heap.size w (w.alloc o) := (Below.refl _ w).alloc (Nat.le_refl _) o
def TokAns (t : Tok × Nat) (w : World) (e : Ending) (w' : World) : Prop := e = .returned (.tuple #[t.1.v, .int .i64 (t.2 : Int)]) ∧ Below w.heap.size w w'
def TokOne (t : Tok) (w : World) (e : Ending) (w' : World) : Prop := e = .returned t.v ∧ Below w.heap.size w w'
set_option maxRecDepth 100000 in
theorem any_byte (w : World) : Calls Try.prog 79 #[] w (TokOne anyT w) := by
  have H := Lib.hid fun (W : World) => not_is noS OkS.no W
  have h0 := H.out (w.alloc (.cells #[.int .i64 0, .int .u64 0, .int .u64 0, .int .u64 0, .int .u64 0, .int .i64 0, .int .i64 0] 111))
  unfold TokOne anyT Tok.v
  obtain ⟨A, hA⟩ : ∃ A, A = notS noS := ⟨_, rfl⟩
  rw [← hA] at h0 ⊢
  unfold setV noS at h0
  have H0 := Lib.hid h0
  clear H hA h0
  go_enter Try.func79, Try.ntmps79
  go_wp2_with fail
  go_at_call 89
  refine H0.out.mono ?_
  rintro e w1 ⟨rfl, hb1⟩
  obtain ⟨⟨k0, k1, k2, k3, k4, k5, k6⟩, f0, f1, f2, f3, f4, f5, f6⟩ := box7 hb1 (by simp)
  have HB := Lib.hid ((bA w _).trans (hb1.mono (by simp)))
  clear hb1
  go_wp2_with fail
  refine bodyPost_ret (v := .agg #[.int .i64 1, .int .u64 (A 0), .int .u64 (A 1), .int .u64 (A 2), .int .u64 (A 3), .int .i64 0, .int .i64 0]) (by simp [results, Try.results79, go_sem, k0, k1, k2, k3, k4, k5, k6]) rfl ⟨rfl, ?_⟩
  exact below7 HB.out (Nat.le_refl _) _ _ _ _ _ _ _
set_option maxRecDepth 100000 in
theorem itself_is (c : Nat) (hc : c < 256) (w : World) : Calls Try.prog 84 #[.int .u8 (c : Int)] w (TokOne (oneT c) w) := by
  have h0 := with_is noS c c OkS.no hc hc (w.alloc (.cells #[.int .i64 0, .int .u64 0, .int .u64 0, .int .u64 0, .int .u64 0, .int .i64 0, .int .i64 0] 111))
  unfold TokOne oneT Tok.v
  obtain ⟨A, hA⟩ : ∃ A, A = withS noS c c := ⟨_, rfl⟩
  rw [← hA] at h0 ⊢
  unfold setV noS at h0
  have H0 := Lib.hid h0
  clear hA h0
  go_enter Try.func84, Try.ntmps84
  go_wp2_with fail
  go_at_call 92
  refine H0.out.mono ?_
  rintro e w1 ⟨rfl, hb1⟩
  obtain ⟨⟨k0, k1, k2, k3, k4, k5, k6⟩, f0, f1, f2, f3, f4, f5, f6⟩ := box7 hb1 (by simp)
  have HB := Lib.hid ((bA w _).trans (hb1.mono (by simp)))
  clear hb1
  go_wp2_with fail
  refine bodyPost_ret (v := .agg #[.int .i64 1, .int .u64 (A 0), .int .u64 (A 1), .int .u64 (A 2), .int .u64 (A 3), .int .i64 0, .int .i64 0]) (by simp [results, Try.results84, go_sem, k0, k1, k2, k3, k4, k5, k6]) rfl ⟨rfl, ?_⟩
  exact below7 HB.out (Nat.le_refl _) _ _ _ _ _ _ _
set_option maxRecDepth 100000 in
theorem repetition_is (a b : Int) (w : World) : Calls Try.prog 82 #[.int .i64 a, .int .i64 b] w (TokOne (repT a b) w) := by
  unfold TokOne repT Tok.v noS
  go_enter Try.func82, Try.ntmps82
  go_wp2_with fail
  refine bodyPost_ret (v := .agg #[.int .i64 7, .int .u64 0, .int .u64 0, .int .u64 0, .int .u64 0, .int .i64 a, .int .i64 b]) (by simp [results, Try.results82, go_sem]) rfl ⟨rfl, ?_⟩
  exact bA w _
theorem size_cons {s : ByteArray} {c : UInt8} {r : List UInt8} (h : s.data.toList = c :: r) : s.size = r.length + 1 := by rw [size_of h]; rfl
set_option maxRecDepth 100000 in
theorem escaped_is (s t : ByteArray) {c : UInt8} {r : List UInt8} (hl : s.data.toList = c :: r) (w : World) : Calls Try.prog 81 #[.string s, .string t] w (TokAns (escT t.data.toList r) w) := by
  unfold TokAns
  match r with
  | [] =>
    have g : decide ((s.size : Int) < 2) = true := decide_eq_true (by rw [size_cons hl]; simp)
    clear hl
    simp only [escT, Tok.v, Tok.none, noS]
    go_enter Try.func81, Try.ntmps81
    go_wp2_with fail
    refine bodyPost_ret (v := .tuple #[.agg #[.int .i64 0, .int .u64 0, .int .u64 0, .int .u64 0, .int .u64 0, .int .i64 0, .int .i64 0], .int .i64 0]) (by simp [results, Try.results81, go_sem]) rfl ⟨rfl, ?_⟩
    exact bA w _
  | d :: q =>
    have hz := size_cons hl
    have g : decide ((s.size : Int) < 2) = false := decide_eq_false (by rw [hz]; simp only [List.length_cons]; omega)
    have h1 := at_of hl (i := 1) (c := d) rfl
    have hs : 1 < s.size := by rw [hz]; simp
    have hsi : (1 : Int) < (s.size : Int) := by omega
    have e110 := u8_test d 110 110 rfl
    by_cases hd : d = 110
    · have tt : ((d.toNat : Int) == 110) = true := by rw [show (110 : Int) = ((110 : Nat) : Int) from rfl, e110, beq_iff_eq]; exact hd
      have HI := Lib.hid (itself_is 10 (by decide) (w.alloc (.cells #[.int .i64 0, .int .u64 0, .int .u64 0, .int .u64 0, .int .u64 0, .int .i64 0, .int .i64 0] 111)))
      have HE := Lib.hid (show escT t.data.toList (d :: q) = (oneT 10, 2) by simp only [escT]; rw [if_pos hd])
      obtain ⟨T, hT⟩ : ∃ T, T = oneT 10 := ⟨_, rfl⟩
      rw [← hT] at HI HE
      clear hl hz hd e110 hT
      unfold TokOne Tok.v at HI
      go_enter Try.func81, Try.ntmps81
      go_wp2_with fail
      go_at_call 84
      refine HI.out.mono ?_
      rintro e w1 ⟨rfl, hb1⟩
      obtain ⟨⟨k0, k1, k2, k3, k4, k5, k6⟩, f0, f1, f2, f3, f4, f5, f6⟩ := box7 hb1 (by simp)
      have HB := Lib.hid ((bA w _).trans (hb1.mono (by simp)))
      clear hb1
      go_wp2_with fail
      refine bodyPost_ret (v := .tuple #[T.v, .int .i64 2]) (by simp [results, Try.results81, go_sem, Tok.v, k0, k1, k2, k3, k4, k5, k6]) rfl ⟨by rw [HE.out]; rfl, ?_⟩
      exact below7 HB.out (Nat.le_refl _) _ _ _ _ _ _ _
    · have tt : ((d.toNat : Int) == 110) = false := by rw [show (110 : Int) = ((110 : Nat) : Int) from rfl, e110, beq_eq_false_iff_ne]; exact hd
      have HX := Lib.hid (Try.strings_IndexByte t (d.toNat : Int))
      obtain ⟨x, hx⟩ : ∃ x, x = Lib.indexByte t.data.toList d := ⟨_, rfl⟩
      rw [show ((d.toNat : Int)).toNat.toUInt8 = d by simp] at HX
      rw [← hx] at HX
      by_cases hneg : x < 0
      · have gx : decide (x < 0) = true := decide_eq_true hneg
        have HE := Lib.hid (show escT t.data.toList (d :: q) = (Tok.none, 0) by simp only [escT]; rw [if_neg hd, ← hx, if_pos hneg])
        clear hl hz hd e110 hx hneg
        go_enter Try.func81, Try.ntmps81
        go_wp2_with fail
        go_at_call 23
        refine (HX.out _).mono ?_
        rintro e w1 ⟨rfl, rfl⟩
        go_wp2_with fail
        refine bodyPost_ret (v := .tuple #[Tok.none.v, .int .i64 0]) (by simp [results, Try.results81, go_sem, Tok.v, Tok.none, noS]) rfl ⟨by rw [HE.out]; rfl, ?_⟩
        exact bA w _
      · have gx : decide (x < 0) = false := decide_eq_false hneg
        have HI := Lib.hid (itself_is d.toNat (UInt8.toNat_lt _) (w.alloc (.cells #[.int .i64 0, .int .u64 0, .int .u64 0, .int .u64 0, .int .u64 0, .int .i64 0, .int .i64 0] 111)))
        have HE := Lib.hid (show escT t.data.toList (d :: q) = (oneT d.toNat, 2) by simp only [escT]; rw [if_neg hd, ← hx, if_neg hneg])
        obtain ⟨T, hT⟩ : ∃ T, T = oneT d.toNat := ⟨_, rfl⟩
        rw [← hT] at HI HE
        clear hl hz hd e110 hT hx hneg
        unfold TokOne Tok.v at HI
        go_enter Try.func81, Try.ntmps81
        go_wp2_with fail
        go_at_call 23
        refine (HX.out _).mono ?_
        rintro e w0 ⟨rfl, rfl⟩
        go_wp2_with fail
        go_at_call 84
        refine HI.out.mono ?_
        rintro e w1 ⟨rfl, hb1⟩
        obtain ⟨⟨k0, k1, k2, k3, k4, k5, k6⟩, f0, f1, f2, f3, f4, f5, f6⟩ := box7 hb1 (by simp)
        have HB := Lib.hid ((bA w _).trans (hb1.mono (by simp)))
        clear hb1
        go_wp2_with fail
        refine bodyPost_ret (v := .tuple #[T.v, .int .i64 2]) (by simp [results, Try.results81, go_sem, Tok.v, k0, k1, k2, k3, k4, k5, k6]) rfl ⟨by rw [HE.out]; rfl, ?_⟩
        exact below7 HB.out (Nat.le_refl _) _ _ _ _ _ _ _
open Go.RowKit Go.Deep
theorem figs_at {l : List UInt8} {c : UInt8} {i n : Nat} (h : l[i]? = some c) : figs (l.drop i) n = if c < 48 ∨ 57 < c then none else figs (l.drop (i + 1)) (10 * n + (c.toNat - 48)) := by
  have hi := (List.getElem?_eq_some_iff.1 h).1
  rw [List.drop_eq_getElem_cons hi]
  rw [List.getElem?_eq_getElem hi] at h
  injection h with h
  rw [h]
  rfl
theorem fig_facts (v n i d : Nat) (h48 : 48 ≤ v) (h57 : v ≤ 57) (hd : d = v - 48) (hn : n < 1000) (hi : i < 3) :
    IntKind.u8.wrap ((v : Int) - 48) = (d : Int) ∧ wrap64 (d : Int) = (d : Int) ∧ wrap64 (10 * (n : Int)) = 10 * (n : Int) ∧ wrap64 (10 * (n : Int) + (d : Int)) = 10 * (n : Int) + (d : Int) ∧ wrap64 ((i : Int) + 1) = (i : Int) + 1 := by
  refine ⟨?_, IntWalk.wrap64_in _ (by omega), IntWalk.wrap64_in _ (by omega), IntWalk.wrap64_in _ (by omega), IntWalk.wrap64_in _ (by omega)⟩
  rw [show (v : Int) - 48 = (d : Int) by omega]
  show ((d : Int) % 256) = (d : Int)
  omega
theorem num_next {l : List UInt8} {n d i : Nat} (h1 : n < 10 ^ i) (h2 : d ≤ 9) (h3 : figs l 0 = figs (l.drop i) n) (h4 : figs (l.drop i) n = figs (l.drop (i + 1)) (10 * n + d)) : 10 * n + d < 10 ^ (i + 1) ∧ figs l 0 = figs (l.drop (i + 1)) (10 * n + d) := by
  refine ⟨?_, by rw [h3, h4]⟩
  rw [Nat.pow_succ]
  omega
set_option maxRecDepth 100000 in
set_option maxHeartbeats 1000000 in
theorem number_is (s : ByteArray) (w : World) : Calls Try.prog 91 #[.string s] w fun e w' => e = .returned (.tuple #[.int .i64 ((numP s.data.toList).1 : Int), .bool (numP s.data.toList).2]) ∧ Below w.heap.size w w' := by
  have hem := isEmpty_of (s := s)
  have hsl : s.data.toList.length = s.size := by simp
  by_cases h0 : s.data.toList = []
  · have hn : numP s.data.toList = (0, false) := by unfold numP; rw [if_pos (.inl h0)]
    rw [hn]
    have he : s.toList.isEmpty = true := by rw [hem, h0]; rfl
    clear hn hem hsl h0
    go_enter Try.func91, Try.ntmps91
    go_wp2_with fail
    go_ret2
    exact ⟨rfl, Below.refl _ _⟩
  · have he : s.toList.isEmpty = false := by rw [hem]; simpa using h0
    have hp : 0 < s.size := by
      rw [← hsl]
      exact List.length_pos_iff.2 h0
    by_cases h3 : 3 < s.size
    · have hn : numP s.data.toList = (0, false) := by unfold numP; rw [if_pos (.inr (by omega))]
      rw [hn]
      have g : decide (3 < (s.size : Int)) = true := decide_eq_true (by omega)
      have gn : decide (3 < s.size) = true := decide_eq_true h3
      clear hn hem hsl h0 hp h3
      go_enter Try.func91, Try.ntmps91
      go_wp2_with fail
      go_ret2
      exact ⟨rfl, Below.refl _ _⟩
    · have hn : numP s.data.toList = match figs s.data.toList 0 with | none => (0, false) | some n => (n, decide (n ≤ 20)) := by
        unfold numP
        rw [if_neg (fun h => h.elim h0 (fun h => by omega))]
        cases figs s.data.toList 0 <;> rfl
      have HN := Lib.hid hn
      have g : decide (3 < (s.size : Int)) = false := decide_eq_false (by omega)
      have gn : decide (3 < s.size) = false := decide_eq_false h3
      have hcv := Lib.run_convert_string_bytes (P := Try.prog) w 9 29 5 s Try.underlying9 Try.underlying29 Try.underlying5
      have hcell : ∀ j (h : j < s.size), (Lib.bytesWorld w 5 s).cell? ⟨w.heap.size, j, none⟩ = some (.int .u8 (s[j].toNat : Int)) := fun j h => by
        have h1 := Lib.bytesWorld_cell w 5 s j h
        have h2 : s.data.toList.getD j 0 = s[j] := by
          rw [List.getD_eq_getElem?_getD, List.getElem?_eq_getElem (by simpa using h)]
          rfl
        rw [h2] at h1
        exact h1
      have hbel : Below w.heap.size w (Lib.bytesWorld w 5 s) := ⟨rfl, rfl, rfl, by rw [Lib.bytesWorld_size]; omega, fun j hj => Lib.bytesWorld_at_old w 5 s j hj⟩
      obtain ⟨cap, ecap⟩ : ∃ c, c = grownCap w s.size 0 5 := ⟨_, rfl⟩
      obtain ⟨WB, eWB⟩ : ∃ W, W = Lib.bytesWorld w 5 s := ⟨_, rfl⟩
      rw [← ecap, ← eWB] at hcv
      rw [← eWB] at hcell hbel
      have HC := Lib.hid hcell
      have HB := Lib.hid hbel
      have H3 := Lib.hid (show s.size ≤ 3 by omega)
      obtain ⟨l, el⟩ : ∃ l, l = s.data.toList := ⟨_, rfl⟩
      rw [← el] at HN hsl ⊢
      have HL := Lib.hid (show ∀ (i : Nat) (h : i < s.size), l[i]? = some s[i] from fun i h => by
        rw [el]
        simp [h]
        rfl)
      have HSL := Lib.hid hsl
      clear hcell hbel ecap eWB hn hem h0 h3 el hsl
      go_enter Try.func91, Try.ntmps91
      go_wp2_with fail
      clear hcv
      go_loop [4, 17] (fun nv iv => ∃ n i : Nat, nv = .int .i64 (n : Int) ∧ iv = .int .i64 (i : Int) ∧ i ≤ s.size ∧ Hid (n < 10 ^ i ∧ figs l 0 = figs (l.drop i) n)) (fun _ iv => s.size - (intOf iv).toNat)
      case atStart => exact ⟨0, 0, rfl, rfl, Nat.zero_le _, Lib.hid ⟨by decide, rfl⟩⟩
      case round =>
        obtain ⟨n, i, rfl, rfl, hi, HI⟩ := hrel
        have hpow : 10 ^ i ≤ 1000 := Nat.le_trans (Nat.pow_le_pow_right (by decide) (show i ≤ 3 by have := H3.out; omega)) (by decide)
        have hn1 : n < 1000 := by have := HI.out.1; omega
        by_cases hlt : i < s.size
        · have hiI : (i : Int) < (s.size : Int) := by omega
          have hi0 : (0 : Int) ≤ (i : Int) := by omega
          have kc0 : WB.cell? ⟨w.heap.size, 0 + i, none⟩ = some (.int .u8 (s[i].toNat : Int)) := by rw [Nat.zero_add]; exact HC.out i hlt
          have kc1 : WB.cell? ⟨w.heap.size, i, none⟩ = some (.int .u8 (s[i].toNat : Int)) := HC.out i hlt
          have hfg := figs_at (n := n) (HL.out i hlt)
          have hv8 : s[i].toNat < 256 := UInt8.toNat_lt _
          have hc1 : (s[i] < 48 ∨ 57 < s[i]) ↔ (s[i].toNat < 48 ∨ 57 < s[i].toNat) := by
            rw [UInt8.lt_iff_toNat_lt, UInt8.lt_iff_toNat_lt]
            rfl
          obtain ⟨v, ev⟩ : ∃ v : Nat, v = s[i].toNat := ⟨_, rfl⟩
          rw [← ev] at kc0 kc1 hc1 hfg hv8
          by_cases hbad : v < 48 ∨ 57 < v
          · have HN2 := Lib.hid (show numP l = (0, false) by rw [HN.out, HI.out.2, hfg, if_pos (hc1.2 hbad)])
            rcases hbad with h48 | h57
            · have g1 : decide ((v : Int) < 48) = true := decide_eq_true (by omega)
              have g1n : decide (v < 48) = true := decide_eq_true h48
              clear h48 ev hfg hc1 hpow hn1
              go_wp2_with fail
              go_ret2
              exact ⟨by rw [HN2.out]; rfl, HB.out⟩
            · have g1 : decide ((v : Int) < 48) = false := decide_eq_false (by omega)
              have g1n : decide (v < 48) = false := decide_eq_false (by omega)
              have g2 : decide (57 < (v : Int)) = true := decide_eq_true (by omega)
              have g2n : decide (57 < v) = true := decide_eq_true h57
              clear h57 ev hfg hc1 hpow hn1
              go_wp2_with fail
              go_ret2
              exact ⟨by rw [HN2.out]; rfl, HB.out⟩
          · have h48 : 48 ≤ v := by omega
            have h57 : v ≤ 57 := by omega
            rw [if_neg (fun h => hbad (hc1.1 h))] at hfg
            have g1 : decide ((v : Int) < 48) = false := decide_eq_false (by omega)
            have g1n : decide (v < 48) = false := decide_eq_false (by omega)
            have g2 : decide (57 < (v : Int)) = false := decide_eq_false (by omega)
            have g2n : decide (57 < v) = false := decide_eq_false (by omega)
            obtain ⟨d, ed⟩ : ∃ d, d = v - 48 := ⟨_, rfl⟩
            rw [← ed] at hfg
            have hd9 : d ≤ 9 := by omega
            have HI1 := Lib.hid (show i + 1 ≤ s.size from hlt)
            have HM := Lib.hid (show s.size - (i + 1) < s.size - i by omega)
            obtain ⟨q1, q2, q3, q4, q5⟩ := fig_facts v n i d h48 h57 ed hn1 (by have := H3.out; omega)
            have HNX := Lib.hid (num_next HI.out.1 hd9 HI.out.2 hfg)
            clear h48 h57 hbad ev ed hfg hc1 hpow hn1 hd9 hv8
            go_wp2_with fail
            go_round
            case rel => exact ⟨10 * n + d, i + 1, by rw [q4, Int.natCast_add, Int.natCast_mul]; rfl, by rw [q5]; rfl, HI1.out, HNX⟩
            case measure => rw [q5]; exact HM.out
        · have hie : i = s.size := by omega
          have hin : ¬ (i : Int) < (s.size : Int) := by omega
          have HN2 := Lib.hid (show numP l = (n, decide (n ≤ 20)) by
            rw [HN.out, HI.out.2, List.drop_of_length_le (by rw [HSL.out]; omega)]
            rfl)
          have HD := Lib.hid (show decide ((n : Int) ≤ 20) = decide (n ≤ 20) by
            by_cases h : n ≤ 20
            · rw [decide_eq_true h, decide_eq_true (by omega)]
            · rw [decide_eq_false h, decide_eq_false (by omega)])
          clear hie hlt hi hpow hn1
          go_wp2_with fail
          go_ret2
          exact ⟨by rw [HN2.out]; simp [← HD.out], HB.out⟩
open Go.RowKit Go.Deep
def bkV : Option ((Nat → Nat) × Nat) → Value
  | none => .tuple #[.agg #[.int .u64 0, .int .u64 0, .int .u64 0, .int .u64 0], .int .i64 0, .int .i64 81]
  | some (S, n) => .tuple #[.agg #[.int .u64 (S 0), .int .u64 (S 1), .int .u64 (S 2), .int .u64 (S 3)], .int .i64 (n : Int), .int .i64 0]
structure BkIs (bk : BkF) : Prop where
  is : ∀ (s : ByteArray) (W : World), s.size ≤ 4096 → MaxAt W → Calls Try.prog 90 #[.string s] W fun e w' => e = .returned (bkV (bk s.data.toList)) ∧ Below W.heap.size W w'
  len : ∀ (l : List UInt8) S n, l.length ≤ 4096 → bk l = some (S, n) → 1 ≤ n ∧ n ≤ l.length
theorem drop_one {s : ByteArray} {c : UInt8} {r : List UInt8} (h : s.data.toList = c :: r) : (s.extract 1 s.size).data.toList = r := by rw [drop_of, h]; rfl
set_option maxRecDepth 100000 in
set_option maxHeartbeats 1000000 in
theorem bracket_tok {bk : BkF} (hbk : BkIs bk) (s : ByteArray) {c : UInt8} {r : List UInt8} (hl : s.data.toList = c :: r) (hz : s.size ≤ 4096) (w : World) (hM : MaxAt w) : Calls Try.prog 80 #[.string s] w (TokAns (brkT bk r) w) := by
  have hs : 1 ≤ s.size := by rw [size_cons hl]; omega
  have hsi : (1 : Int) ≤ (s.size : Int) := by omega
  have hb := hbk.is (s.extract 1 s.size) (w.alloc (.cells #[.int .i64 0, .int .u64 0, .int .u64 0, .int .u64 0, .int .u64 0, .int .i64 0, .int .i64 0] 111)) (by simp; omega) (hM.below (bA w _))
  rw [drop_one hl] at hb
  unfold TokAns brkT
  cases hr : bk r with
  | none =>
    rw [hr] at hb
    have HB0 := Lib.hid hb
    simp only [Tok.v, Tok.none, noS]
    clear hbk hl hz hM hr hb
    unfold bkV at HB0
    go_enter Try.func80, Try.ntmps80
    go_wp2_with fail
    go_at_call 90
    refine HB0.out.mono ?_
    rintro e w1 ⟨rfl, hb1⟩
    obtain ⟨⟨k0, k1, k2, k3, k4, k5, k6⟩, f0, f1, f2, f3, f4, f5, f6⟩ := box7 hb1 (by simp)
    have HB := Lib.hid ((bA w _).trans (hb1.mono (by simp)))
    have hsz : w.heap.size < w1.heap.size := Nat.lt_of_lt_of_le (by simp) hb1.size
    clear hb1
    go_wp2_with fail
    refine bodyPost_ret (v := .tuple #[.agg #[.int .i64 0, .int .u64 0, .int .u64 0, .int .u64 0, .int .u64 0, .int .i64 0, .int .i64 0], .int .i64 0]) (by simp [results, Try.results80, go_sem, k0, k1, k2, k3, k4, k5, k6, hsz]) rfl ⟨rfl, ?_⟩
    exact (by first | exact (below7 HB.out (Nat.le_refl _) _ _ _ _ _ _ _).alloc (by simp [World.setCell]; omega) _ | exact below7 (HB.out.alloc (by omega) _) (Nat.le_refl _) _ _ _ _ _ _ _)
  | some x =>
    obtain ⟨S, n⟩ := x
    rw [hr] at hb
    have hn := hbk.len r S n (by have := size_cons hl; omega) hr
    have hn2 : n ≤ 4096 := by have := size_cons hl; omega
    have HB0 := Lib.hid hb
    have hw1 : wrap64 (1 + (n : Int)) = ((1 + n : Nat) : Int) := by rw [IntWalk.wrap64_in _ (by omega)]; omega
    clear hbk hl hz hM hr hb hn hn2
    unfold bkV at HB0
    go_enter Try.func80, Try.ntmps80
    go_wp2_with fail
    go_at_call 90
    refine HB0.out.mono ?_
    rintro e w1 ⟨rfl, hb1⟩
    obtain ⟨⟨k0, k1, k2, k3, k4, k5, k6⟩, f0, f1, f2, f3, f4, f5, f6⟩ := box7 hb1 (by simp)
    have HB := Lib.hid ((bA w _).trans (hb1.mono (by simp)))
    have hsz : w.heap.size < w1.heap.size := Nat.lt_of_lt_of_le (by simp) hb1.size
    clear hb1
    go_wp2_with fail
    refine bodyPost_ret (v := .tuple #[.agg #[.int .i64 1, .int .u64 (S 0), .int .u64 (S 1), .int .u64 (S 2), .int .u64 (S 3), .int .i64 0, .int .i64 0], .int .i64 ((1 + n : Nat) : Int)]) (by simp [results, Try.results80, go_sem, k0, k1, k2, k3, k4, k5, k6, hsz, hw1]) rfl ⟨rfl, ?_⟩
    exact (by first | exact (below7 HB.out (Nat.le_refl _) _ _ _ _ _ _ _).alloc (by simp [World.setCell]; omega) _ | exact below7 (HB.out.alloc (by omega) _) (Nat.le_refl _) _ _ _ _ _ _ _)
open Go.RowKit Go.Deep
def Box7 (w1 : World) (b : Nat) (v0 v1 v2 v3 v4 v5 v6 : Value) : Prop :=
    (w1.cell? ⟨b, 0, none⟩ = some v0 ∧ w1.cell? ⟨b, 1, none⟩ = some v1 ∧ w1.cell? ⟨b, 2, none⟩ = some v2 ∧ w1.cell? ⟨b, 3, none⟩ = some v3 ∧ w1.cell? ⟨b, 4, none⟩ = some v4 ∧ w1.cell? ⟨b, 5, none⟩ = some v5 ∧ w1.cell? ⟨b, 6, none⟩ = some v6) ∧
    (w1.frozen? ⟨b, 0, none⟩ = false ∧ w1.frozen? ⟨b, 1, none⟩ = false ∧ w1.frozen? ⟨b, 2, none⟩ = false ∧ w1.frozen? ⟨b, 3, none⟩ = false ∧ w1.frozen? ⟨b, 4, none⟩ = false ∧ w1.frozen? ⟨b, 5, none⟩ = false ∧ w1.frozen? ⟨b, 6, none⟩ = false)
theorem box7k {w w1 : World} {b n : Nat} {v0 v1 v2 v3 v4 v5 v6 : Value} (hx : Box7 w b v0 v1 v2 v3 v4 v5 v6) (h : Below n w w1) (hn : b < n) : Box7 w1 b v0 v1 v2 v3 v4 v5 v6 := by
  obtain ⟨⟨k0, k1, k2, k3, k4, k5, k6⟩, f0, f1, f2, f3, f4, f5, f6⟩ := hx
  refine ⟨⟨?_, ?_, ?_, ?_, ?_, ?_, ?_⟩, ?_, ?_, ?_, ?_, ?_, ?_, ?_⟩
  all_goals first | (rw [h.cell hn]; assumption) | (rw [h.frozen hn]; assumption)
theorem cut_lenP (l sep : List UInt8) : (Lib.cut l sep).1.length ≤ l.length ∧ (Lib.cut l sep).2.1.length ≤ l.length := by
  unfold Lib.cut
  split
  · refine ⟨?_, ?_⟩ <;> simp <;> omega
  · simp
set_option maxRecDepth 100000 in
set_option maxHeartbeats 4000000 in
theorem interval_tok (s f t : ByteArray) {r : List UInt8} (hf : f.size ≤ s.size) (hr : (s.extract f.size s.size).data.toList = r) (hz : s.size ≤ 4096) (hft : f.size + t.size ≤ 100) (w : World) (hM : MaxAt w) :
    Calls Try.prog 83 #[.string s, .string f, .string t] w (TokAns (intT f.size t.data.toList r) w) := by
  obtain ⟨m, hm⟩ := hM.below (bA w (.cells #[.int .i64 0, .int .u64 0, .int .u64 0, .int .u64 0, .int .u64 0, .int .i64 0, .int .i64 0] 111))
  have hfi : (f.size : Int) ≤ (s.size : Int) := by omega
  have hrl : r.length ≤ 4096 := by rw [← hr]; simp; omega
  have hc1 := Try.strings_Cut (s.extract f.size s.size) t m (w.alloc (.cells #[.int .i64 0, .int .u64 0, .int .u64 0, .int .u64 0, .int .u64 0, .int .i64 0, .int .i64 0] 111)) (by simp; omega) hm
  rw [hr] at hc1
  unfold TokAns intT
  dsimp only
  have hl1 := (cut_lenP r t.data.toList).1
  obtain ⟨⟨I, A, ed⟩, eA⟩ : ∃ x, x = Lib.cut r t.data.toList := ⟨_, rfl⟩
  rw [← eA] at hc1 hl1 ⊢
  clear eA
  dsimp only at hc1 hl1 ⊢
  have hc2 : ∀ n, _ := fun n => Try.strings_Cut (⟨I.toArray⟩ : ByteArray) ⟨#[44]⟩ m ((w.alloc (.cells #[.int .i64 0, .int .u64 0, .int .u64 0, .int .u64 0, .int .u64 0, .int .i64 0, .int .i64 0] 111)).drewN n) (by simp [ByteArray.size]; omega) hm
  simp only at hc2
  have hl2 := cut_lenP I [44]
  obtain ⟨⟨L, H, cm⟩, eB⟩ : ∃ x, x = Lib.cut I [44] := ⟨_, rfl⟩
  rw [← eB] at hc2 hl2 ⊢
  clear eB
  dsimp only at hc2 hl2 ⊢
  obtain ⟨IS, eIS⟩ : ∃ x : ByteArray, x = ⟨I.toArray⟩ := ⟨_, rfl⟩
  obtain ⟨AS, eAS⟩ : ∃ x : ByteArray, x = ⟨A.toArray⟩ := ⟨_, rfl⟩
  obtain ⟨LS, eLS⟩ : ∃ x : ByteArray, x = ⟨L.toArray⟩ := ⟨_, rfl⟩
  obtain ⟨HS, eHS⟩ : ∃ x : ByteArray, x = ⟨H.toArray⟩ := ⟨_, rfl⟩
  have hIS : IS.size = I.length := by rw [eIS]; simp [ByteArray.size]
  have hn1 := number_is LS
  have hn2 := number_is HS
  rw [show LS.data.toList = L by rw [eLS]] at hn1
  rw [show HS.data.toList = H by rw [eHS]] at hn2
  have hemp : HS.toList.isEmpty = H.isEmpty := by rw [isEmpty_of, eHS]
  rw [← eIS, ← eAS] at hc1
  rw [← eIS, ← eLS, ← eHS] at hc2
  rw [← hIS]
  have hIS2 : IS.size ≤ 4096 := by omega
  obtain ⟨⟨ln, lb⟩, eln⟩ : ∃ x, x = numP L := ⟨_, rfl⟩
  obtain ⟨⟨hn, hb⟩, ehn⟩ : ∃ x, x = numP H := ⟨_, rfl⟩
  rw [← eln] at hn1 ⊢
  rw [← ehn] at hn2 ⊢
  obtain ⟨z, ez⟩ : ∃ z, z = H.isEmpty := ⟨_, rfl⟩
  rw [← ez] at hemp
  have hzz : (H = []) = (z = true) := by rw [ez]; simp
  simp only [hzz, show t.data.toList.length = t.size by simp]
  obtain ⟨ans, eans⟩ : ∃ x : Tok × Nat, x = if ed = false ∨ lb = false then (Tok.none, 0) else if cm = false then (repT (ln : Int) (ln : Int), f.size + IS.size + t.size) else if z = true then (repT (ln : Int) (-1), f.size + IS.size + t.size) else if hb = false ∨ hn < ln then (Tok.none, 0) else (repT (ln : Int) (hn : Int), f.size + IS.size + t.size) := ⟨_, rfl⟩
  have EANS := Lib.hid eans
  rw [← eans]
  clear eans
  have HC1 := Lib.hid hc1
  have HC2 := Lib.hid hc2
  have HN1 := Lib.hid hn1
  have HN2 := Lib.hid hn2
  have hcmp : decide ((hn : Int) < (ln : Int)) = decide (hn < ln) := by
    by_cases h : hn < ln
    · rw [decide_eq_true h, decide_eq_true (by omega)]
    · rw [decide_eq_false h, decide_eq_false (by omega)]
  have HCMP := Lib.hid hcmp
  have q1 : wrap64 ((f.size : Int) + (IS.size : Int)) = (f.size : Int) + (IS.size : Int) := IntWalk.wrap64_in _ (by omega)
  have q2 : wrap64 ((f.size : Int) + (IS.size : Int) + (t.size : Int)) = (f.size : Int) + (IS.size : Int) + (t.size : Int) := IntWalk.wrap64_in _ (by clear q1; omega)
  clear hr hz hft hm hrl hl1 hl2 eIS eAS eLS eHS hIS hIS2 eln ehn ez hzz hc1 hc2 hn1 hn2 hcmp hM
  go_enter Try.func83, Try.ntmps83
  go_wp2_with fail
  go_at_call 60
  refine HC1.out.mono ?_
  rintro e w0 ⟨rfl, n1, rfl⟩
  go_wp2_with fail
  go_at_call 60
  refine (HC2.out n1).mono ?_
  rintro e w0 ⟨rfl, n2, rfl⟩
  go_wp2_with fail
  go_at_call 91
  refine (HN1.out _).mono ?_
  rintro e w1 ⟨rfl, hb1⟩
  have hb1' : Below (w.alloc (.cells #[.int .i64 0, .int .u64 0, .int .u64 0, .int .u64 0, .int .u64 0, .int .i64 0, .int .i64 0] 111)).heap.size (w.alloc (.cells #[.int .i64 0, .int .u64 0, .int .u64 0, .int .u64 0, .int .u64 0, .int .i64 0, .int .i64 0] 111)) w1 := (below_drewNc (m := n1 + n2) (Below.refl _ _)).trans hb1
  go_wp2_with fail
  go_at_call 91
  refine (HN2.out _).mono ?_
  rintro e w2 ⟨rfl, hb2⟩
  have hb2' := hb1'.trans (hb2.mono hb1'.size)
  have hx : Box7 w2 w.heap.size (.int .i64 0) (.int .u64 0) (.int .u64 0) (.int .u64 0) (.int .u64 0) (.int .i64 0) (.int .i64 0) := box7 hb2' (by simp)
  have HBX := Lib.hid hx
  have HB := Lib.hid ((bA w (.cells #[.int .i64 0, .int .u64 0, .int .u64 0, .int .u64 0, .int .u64 0, .int .i64 0, .int .i64 0] 111)).trans (hb2'.mono (by simp)))
  have HSZ := Lib.hid (show w.heap.size < w2.heap.size from Nat.lt_of_lt_of_le (by simp) hb2'.size)
  clear hb1 hb1' hb2 hb2' HC1 HC2 HN1 HN2
  cases ed with
  | false =>
    obtain ⟨⟨k0, k1, k2, k3, k4, k5, k6⟩, f0, f1, f2, f3, f4, f5, f6⟩ := hx
    have HE := Lib.hid (show ans = (Tok.none, 0) by rw [EANS.out]; exact if_pos (.inl rfl))
    go_wp2_with fail
    refine bodyPost_ret (v := .tuple #[.agg #[.int .i64 0, .int .u64 0, .int .u64 0, .int .u64 0, .int .u64 0, .int .i64 0, .int .i64 0], .int .i64 0]) (by simp [results, Try.results83, go_sem, k0, k1, k2, k3, k4, k5, k6]) rfl ⟨by rw [HE.out]; rfl, ?_⟩
    exact below7 HB.out (Nat.le_refl _) _ _ _ _ _ _ _
  | true =>
    cases lb with
    | false =>
      obtain ⟨⟨k0, k1, k2, k3, k4, k5, k6⟩, f0, f1, f2, f3, f4, f5, f6⟩ := hx
      have HE := Lib.hid (show ans = (Tok.none, 0) by rw [EANS.out]; exact if_pos (.inr rfl))
      go_wp2_with fail
      refine bodyPost_ret (v := .tuple #[.agg #[.int .i64 0, .int .u64 0, .int .u64 0, .int .u64 0, .int .u64 0, .int .i64 0, .int .i64 0], .int .i64 0]) (by simp [results, Try.results83, go_sem, k0, k1, k2, k3, k4, k5, k6]) rfl ⟨by rw [HE.out]; rfl, ?_⟩
      exact below7 HB.out (Nat.le_refl _) _ _ _ _ _ _ _
    | true =>
      cases cm with
      | false =>
        clear hx
        have HR := Lib.hid fun (W : World) => repetition_is (ln : Int) ((ln : Int)) W
        unfold TokOne Tok.v repT noS at HR
        have HE := Lib.hid (show ans = (repT (ln : Int) ((ln : Int)), f.size + IS.size + t.size) by rw [EANS.out]; rw [if_neg (fun h => h.elim (fun h => by cases h) (fun h => by cases h))]; exact if_pos rfl)
        go_wp2_with fail
        go_at_call 82
        refine (HR.out _).mono ?_
        rintro e w3 ⟨rfl, hb3⟩
        have hx := box7k HBX.out hb3 HSZ.out
        obtain ⟨⟨k0, k1, k2, k3, k4, k5, k6⟩, f0, f1, f2, f3, f4, f5, f6⟩ := hx
        have HB3 := Lib.hid (HB.out.trans (hb3.mono HB.out.size))
        clear hb3
        go_wp2_with fail
        refine bodyPost_ret (v := .tuple #[.agg #[.int .i64 7, .int .u64 0, .int .u64 0, .int .u64 0, .int .u64 0, .int .i64 (ln : Int), .int .i64 ((ln : Int))], .int .i64 ((f.size : Int) + (IS.size : Int) + (t.size : Int))]) (by simp [results, Try.results83, go_sem, k0, k1, k2, k3, k4, k5, k6, q1, q2]) rfl ⟨by rw [HE.out]; simp [Tok.v, repT, noS], ?_⟩
        exact below7 HB3.out (Nat.le_refl _) _ _ _ _ _ _ _
      | true =>
        cases z with
        | true =>
          clear hx
          have HR := Lib.hid fun (W : World) => repetition_is (ln : Int) (-1) W
          unfold TokOne Tok.v repT noS at HR
          have HE := Lib.hid (show ans = (repT (ln : Int) (-1), f.size + IS.size + t.size) by rw [EANS.out]; rw [if_neg (fun h => h.elim (fun h => by cases h) (fun h => by cases h)), if_neg (fun h => by cases h)]; exact if_pos rfl)
          go_wp2_with fail
          go_at_call 82
          refine (HR.out _).mono ?_
          rintro e w3 ⟨rfl, hb3⟩
          have hx := box7k HBX.out hb3 HSZ.out
          obtain ⟨⟨k0, k1, k2, k3, k4, k5, k6⟩, f0, f1, f2, f3, f4, f5, f6⟩ := hx
          have HB3 := Lib.hid (HB.out.trans (hb3.mono HB.out.size))
          clear hb3
          go_wp2_with fail
          refine bodyPost_ret (v := .tuple #[.agg #[.int .i64 7, .int .u64 0, .int .u64 0, .int .u64 0, .int .u64 0, .int .i64 (ln : Int), .int .i64 (-1)], .int .i64 ((f.size : Int) + (IS.size : Int) + (t.size : Int))]) (by simp [results, Try.results83, go_sem, k0, k1, k2, k3, k4, k5, k6, q1, q2]) rfl ⟨by rw [HE.out]; simp [Tok.v, repT, noS], ?_⟩
          exact below7 HB3.out (Nat.le_refl _) _ _ _ _ _ _ _
        | false =>
          cases hb with
          | false =>
            obtain ⟨⟨k0, k1, k2, k3, k4, k5, k6⟩, f0, f1, f2, f3, f4, f5, f6⟩ := hx
            have HE := Lib.hid (show ans = (Tok.none, 0) by rw [EANS.out]; rw [if_neg (fun h => h.elim (fun h => by cases h) (fun h => by cases h)), if_neg (fun h => by cases h), if_neg (fun h => by cases h)]; exact if_pos (.inl rfl))
            go_wp2_with fail
            refine bodyPost_ret (v := .tuple #[.agg #[.int .i64 0, .int .u64 0, .int .u64 0, .int .u64 0, .int .u64 0, .int .i64 0, .int .i64 0], .int .i64 0]) (by simp [results, Try.results83, go_sem, k0, k1, k2, k3, k4, k5, k6]) rfl ⟨by rw [HE.out]; rfl, ?_⟩
            exact below7 HB.out (Nat.le_refl _) _ _ _ _ _ _ _
          | true =>
            by_cases hlt : hn < ln
            · have g1 : decide ((hn : Int) < (ln : Int)) = true := by rw [HCMP.out, decide_eq_true hlt]
              have g1n : decide (hn < ln) = true := decide_eq_true hlt
              obtain ⟨⟨k0, k1, k2, k3, k4, k5, k6⟩, f0, f1, f2, f3, f4, f5, f6⟩ := hx
              have HE := Lib.hid (show ans = (Tok.none, 0) by rw [EANS.out]; rw [if_neg (fun h => h.elim (fun h => by cases h) (fun h => by cases h)), if_neg (fun h => by cases h), if_neg (fun h => by cases h)]; exact if_pos (.inr hlt))
              go_wp2_with fail
              refine bodyPost_ret (v := .tuple #[.agg #[.int .i64 0, .int .u64 0, .int .u64 0, .int .u64 0, .int .u64 0, .int .i64 0, .int .i64 0], .int .i64 0]) (by simp [results, Try.results83, go_sem, k0, k1, k2, k3, k4, k5, k6]) rfl ⟨by rw [HE.out]; rfl, ?_⟩
              exact below7 HB.out (Nat.le_refl _) _ _ _ _ _ _ _
            · have g1 : decide ((hn : Int) < (ln : Int)) = false := by rw [HCMP.out, decide_eq_false hlt]
              have g1n : decide (hn < ln) = false := decide_eq_false hlt
              clear hx
              have HR := Lib.hid fun (W : World) => repetition_is (ln : Int) ((hn : Int)) W
              unfold TokOne Tok.v repT noS at HR
              have HE := Lib.hid (show ans = (repT (ln : Int) ((hn : Int)), f.size + IS.size + t.size) by rw [EANS.out]; rw [if_neg (fun h => h.elim (fun h => by cases h) (fun h => by cases h)), if_neg (fun h => by cases h), if_neg (fun h => by cases h)]; exact if_neg (fun h => h.elim (fun h => by cases h) hlt))
              go_wp2_with fail
              go_at_call 82
              refine (HR.out _).mono ?_
              rintro e w3 ⟨rfl, hb3⟩
              have hx := box7k HBX.out hb3 HSZ.out
              obtain ⟨⟨k0, k1, k2, k3, k4, k5, k6⟩, f0, f1, f2, f3, f4, f5, f6⟩ := hx
              have HB3 := Lib.hid (HB.out.trans (hb3.mono HB.out.size))
              clear hb3
              go_wp2_with fail
              refine bodyPost_ret (v := .tuple #[.agg #[.int .i64 7, .int .u64 0, .int .u64 0, .int .u64 0, .int .u64 0, .int .i64 (ln : Int), .int .i64 ((hn : Int))], .int .i64 ((f.size : Int) + (IS.size : Int) + (t.size : Int))]) (by simp [results, Try.results83, go_sem, k0, k1, k2, k3, k4, k5, k6, q1, q2]) rfl ⟨by rw [HE.out]; simp [Tok.v, repT, noS], ?_⟩
              exact below7 HB3.out (Nat.le_refl _) _ _ _ _ _ _ _
open Go.RowKit Go.Deep
theorem byte_t {c : UInt8} {k : UInt8} {n : Nat} (hk : k.toNat = n) (h : c = k) : ((c.toNat : Int) == (n : Int)) = true := by rw [u8_test c n k hk, beq_iff_eq]; exact h
theorem byte_f {c : UInt8} {k : UInt8} {n : Nat} (hk : k.toNat = n) (h : c ≠ k) : ((c.toNat : Int) == (n : Int)) = false := by rw [u8_test c n k hk, beq_eq_false_iff_ne]; exact h
set_option maxRecDepth 100000 in
set_option maxHeartbeats 4000000 in
theorem basic_escape (s : ByteArray) {r : List UInt8} (hl : s.data.toList = 92 :: r) (hz : s.size ≤ 4096) (w : World) (hM : MaxAt w) : Calls Try.prog 85 #[.string s] w (TokAns (basEsc r) w) := by
  have P1 := has_prefix s ⟨#[92, 40]⟩
  have P2 := has_prefix s ⟨#[92, 41]⟩
  have P3 := has_prefix s ⟨#[92, 123]⟩
  have p1 : pre ⟨#[92, 40]⟩ s = [40].isPrefixOf r := by unfold pre; rw [hl]; rfl
  have p2 : pre ⟨#[92, 41]⟩ s = [41].isPrefixOf r := by unfold pre; rw [hl]; rfl
  have p3 : pre ⟨#[92, 123]⟩ s = [123].isPrefixOf r := by unfold pre; rw [hl]; rfl
  rw [p1] at P1
  rw [p2] at P2
  rw [p3] at P3
  have HP1 := Lib.hid P1
  have HP2 := Lib.hid P2
  have HP3 := Lib.hid P3
  unfold TokAns
  clear p1 p2 p3 P1 P2 P3
  obtain ⟨ans, ea⟩ : ∃ x, x = basEsc r := ⟨_, rfl⟩
  rw [← ea]
  cases b1 : [40].isPrefixOf r with
  | true =>
    rw [b1] at HP1
    have HE := Lib.hid (show ans = (Tok.of 4, 2) by rw [ea]; unfold basEsc; rw [b1]; rfl)
    clear hl hz hM b1 ea HP2 HP3
    go_enter Try.func85, Try.ntmps85
    go_wp2_with fail
    go_at_call 44
    refine (HP1.out _).mono ?_
    rintro e w0 ⟨rfl, rfl⟩
    go_wp2_with fail
    refine bodyPost_ret (v := .tuple #[.agg #[.int .i64 4, .int .u64 0, .int .u64 0, .int .u64 0, .int .u64 0, .int .i64 0, .int .i64 0], .int .i64 2]) (by simp [results, Try.results85, go_sem]) rfl ⟨by rw [HE.out]; rfl, ?_⟩
    exact bA w _
  | false =>
    rw [b1] at HP1
    cases b2 : [41].isPrefixOf r with
    | true =>
      rw [b2] at HP2
      have HE := Lib.hid (show ans = (Tok.of 5, 2) by rw [ea]; unfold basEsc; rw [b1, b2]; rfl)
      clear hl hz hM b1 b2 ea HP3
      go_enter Try.func85, Try.ntmps85
      go_wp2_with fail
      go_at_call 44
      refine (HP1.out _).mono ?_
      rintro e w0 ⟨rfl, rfl⟩
      go_wp2_with fail
      go_at_call 44
      refine (HP2.out _).mono ?_
      rintro e w0 ⟨rfl, rfl⟩
      go_wp2_with fail
      refine bodyPost_ret (v := .tuple #[.agg #[.int .i64 5, .int .u64 0, .int .u64 0, .int .u64 0, .int .u64 0, .int .i64 0, .int .i64 0], .int .i64 2]) (by simp [results, Try.results85, go_sem]) rfl ⟨by rw [HE.out]; rfl, ?_⟩
      exact bA w _
    | false =>
      rw [b2] at HP2
      cases b3 : [123].isPrefixOf r with
      | true =>
        rw [b3] at HP3
        have hr1 : 1 ≤ r.length := by
          cases r with
          | nil => cases b3
          | cons x y => simp
        have h9 := interval_tok s ⟨#[92, 123]⟩ ⟨#[92, 125]⟩ (r := r.drop 1) (by rw [size_cons hl]; show 2 ≤ _; omega) (by rw [drop_of, hl]; rfl) hz (by decide) (w.alloc (.cells #[.int .i64 0, .int .u64 0, .int .u64 0, .int .u64 0, .int .u64 0, .int .i64 0, .int .i64 0] 111)) (hM.below (bA w _))
        have HE := Lib.hid (show ans = intT 2 [92, 125] (r.drop 1) by rw [ea]; unfold basEsc; rw [b1, b2, b3]; rfl)
        rw [show (⟨#[92, 123]⟩ : ByteArray).size = 2 from rfl, show (⟨#[92, 125]⟩ : ByteArray).data.toList = [92, 125] from rfl] at h9
        obtain ⟨⟨T, n⟩, hT⟩ : ∃ T, T = intT 2 [92, 125] (r.drop 1) := ⟨_, rfl⟩
        rw [← hT] at h9 HE
        unfold TokAns Tok.v at h9
        have H9 := Lib.hid h9
        clear hl hz hM b1 b2 b3 ea hr1 h9 hT
        go_enter Try.func85, Try.ntmps85
        go_wp2_with fail
        go_at_call 44
        refine (HP1.out _).mono ?_
        rintro e w0 ⟨rfl, rfl⟩
        go_wp2_with fail
        go_at_call 44
        refine (HP2.out _).mono ?_
        rintro e w0 ⟨rfl, rfl⟩
        go_wp2_with fail
        go_at_call 44
        refine (HP3.out _).mono ?_
        rintro e w0 ⟨rfl, rfl⟩
        go_wp2_with fail
        go_at_call 83
        refine H9.out.mono ?_
        rintro e w1 ⟨rfl, hb1⟩
        obtain ⟨⟨k0, k1, k2, k3, k4, k5, k6⟩, f0, f1, f2, f3, f4, f5, f6⟩ := box7 hb1 (by simp)
        have HB := Lib.hid ((bA w _).trans (hb1.mono (by simp)))
        clear hb1
        go_wp2_with fail
        refine bodyPost_ret (v := .tuple #[T.v, .int .i64 (n : Int)]) (by simp [results, Try.results85, go_sem, Tok.v, k0, k1, k2, k3, k4, k5, k6]) rfl ⟨by rw [HE.out], ?_⟩
        exact below7 HB.out (Nat.le_refl _) _ _ _ _ _ _ _
      | false =>
        rw [b3] at HP3
        have h9 := escaped_is s ⟨#[46, 91, 93, 92, 42, 94, 36, 47]⟩ hl (w.alloc (.cells #[.int .i64 0, .int .u64 0, .int .u64 0, .int .u64 0, .int .u64 0, .int .i64 0, .int .i64 0] 111))
        have HE := Lib.hid (show ans = escT escB r by rw [ea]; unfold basEsc; rw [b1, b2, b3]; rfl)
        rw [show (⟨#[46, 91, 93, 92, 42, 94, 36, 47]⟩ : ByteArray).data.toList = escB from rfl] at h9
        obtain ⟨⟨T, n⟩, hT⟩ : ∃ T, T = escT escB r := ⟨_, rfl⟩
        rw [← hT] at h9 HE
        unfold TokAns Tok.v at h9
        have H9 := Lib.hid h9
        clear hl hz hM b1 b2 b3 ea h9 hT
        go_enter Try.func85, Try.ntmps85
        go_wp2_with fail
        go_at_call 44
        refine (HP1.out _).mono ?_
        rintro e w0 ⟨rfl, rfl⟩
        go_wp2_with fail
        go_at_call 44
        refine (HP2.out _).mono ?_
        rintro e w0 ⟨rfl, rfl⟩
        go_wp2_with fail
        go_at_call 44
        refine (HP3.out _).mono ?_
        rintro e w0 ⟨rfl, rfl⟩
        go_wp2_with fail
        go_at_call 81
        refine H9.out.mono ?_
        rintro e w1 ⟨rfl, hb1⟩
        obtain ⟨⟨k0, k1, k2, k3, k4, k5, k6⟩, f0, f1, f2, f3, f4, f5, f6⟩ := box7 hb1 (by simp)
        have HB := Lib.hid ((bA w _).trans (hb1.mono (by simp)))
        clear hb1
        go_wp2_with fail
        refine bodyPost_ret (v := .tuple #[T.v, .int .i64 (n : Int)]) (by simp [results, Try.results85, go_sem, Tok.v, k0, k1, k2, k3, k4, k5, k6]) rfl ⟨by rw [HE.out], ?_⟩
        exact below7 HB.out (Nat.le_refl _) _ _ _ _ _ _ _
set_option maxRecDepth 100000 in
set_option maxHeartbeats 8000000 in
theorem extended_token {bk : BkF} (hbk : BkIs bk) (s : ByteArray) {c : UInt8} {r : List UInt8} (hl : s.data.toList = c :: r) (hz : s.size ≤ 4096) (w : World) (hM : MaxAt w) : Calls Try.prog 73 #[.string s] w (TokAns (extT bk (c :: r)) w) := by
  have hs : 0 < s.size := by rw [size_cons hl]; omega
  have hsi : (0 : Int) < (s.size : Int) := by omega
  have h0 := at_of hl (i := 0) (c := c) rfl
  have hdr := drop_one hl
  unfold TokAns
  obtain ⟨ans, ea⟩ : ∃ x, x = extT bk (c :: r) := ⟨_, rfl⟩
  rw [← ea]
  by_cases e46 : c = 46
  · have hq : True := trivial
    have t46 : ((c.toNat : Int) == 46) = true := byte_t (k := 46) (n := 46) rfl e46
    have h9 := any_byte (w.alloc (.cells #[.int .i64 0, .int .u64 0, .int .u64 0, .int .u64 0, .int .u64 0, .int .i64 0, .int .i64 0] 111))
    have HE := Lib.hid (show ans = (anyT, 1) by rw [ea, e46]; simp [extT])
    obtain ⟨T, hT⟩ : ∃ T, T = anyT := ⟨_, rfl⟩
    rw [← hT] at h9 HE
    clear hT
    unfold TokOne Tok.v at h9
    have H9 := Lib.hid h9
    clear h9 hl hz hM ea e46  hdr hbk hq
    go_enter Try.func73, Try.ntmps73
    go_wp2_with fail
    go_at_call 79
    refine H9.out.mono ?_
    rintro e w1 ⟨rfl, hb1⟩
    obtain ⟨⟨k0, k1, k2, k3, k4, k5, k6⟩, f0, f1, f2, f3, f4, f5, f6⟩ := box7 hb1 (by simp)
    have HB := Lib.hid ((bA w _).trans (hb1.mono (by simp)))
    clear hb1
    go_wp2_with fail
    refine bodyPost_ret (v := .tuple #[T.v, .int .i64 1]) (by simp [results, Try.results73, go_sem, Tok.v, k0, k1, k2, k3, k4, k5, k6]) rfl ⟨by rw [HE.out]; rfl, ?_⟩
    exact below7 HB.out (Nat.le_refl _) _ _ _ _ _ _ _
  · have n46 : c ≠ 46 := e46
    clear e46
    by_cases e91 : c = 91
    · have hq : True := trivial
      have t46 : ((c.toNat : Int) == 46) = false := byte_f (k := 46) (n := 46) rfl n46
      have t91 : ((c.toNat : Int) == 91) = true := byte_t (k := 91) (n := 91) rfl e91
      have h9 := bracket_tok hbk s hl hz (w.alloc (.cells #[.int .i64 0, .int .u64 0, .int .u64 0, .int .u64 0, .int .u64 0, .int .i64 0, .int .i64 0] 111)) (hM.below (bA w _))
      have HE := Lib.hid (show ans = brkT bk r by rw [ea, e91]; simp [extT])
      obtain ⟨⟨T, n⟩, hT⟩ : ∃ T, T = brkT bk r := ⟨_, rfl⟩
      rw [← hT] at h9 HE
      clear hT
      unfold TokAns Tok.v at h9
      have H9 := Lib.hid h9
      clear h9 hl hz hM ea e91 n46 hdr hbk hq
      go_enter Try.func73, Try.ntmps73
      go_wp2_with fail
      go_at_call 80
      refine H9.out.mono ?_
      rintro e w1 ⟨rfl, hb1⟩
      obtain ⟨⟨k0, k1, k2, k3, k4, k5, k6⟩, f0, f1, f2, f3, f4, f5, f6⟩ := box7 hb1 (by simp)
      have HB := Lib.hid ((bA w _).trans (hb1.mono (by simp)))
      clear hb1
      go_wp2_with fail
      refine bodyPost_ret (v := .tuple #[T.v, .int .i64 (n : Int)]) (by simp [results, Try.results73, go_sem, Tok.v, k0, k1, k2, k3, k4, k5, k6]) rfl ⟨by rw [HE.out], ?_⟩
      exact below7 HB.out (Nat.le_refl _) _ _ _ _ _ _ _
    · have n91 : c ≠ 91 := e91
      clear e91
      by_cases e92 : c = 92
      · have hq : True := trivial
        have t46 : ((c.toNat : Int) == 46) = false := byte_f (k := 46) (n := 46) rfl n46
        have t91 : ((c.toNat : Int) == 91) = false := byte_f (k := 91) (n := 91) rfl n91
        have t92 : ((c.toNat : Int) == 92) = true := byte_t (k := 92) (n := 92) rfl e92
        have h9 := escaped_is s ⟨#[46, 91, 93, 92, 42, 94, 36, 47, 40, 41, 124, 43, 63, 123, 125]⟩ hl (w.alloc (.cells #[.int .i64 0, .int .u64 0, .int .u64 0, .int .u64 0, .int .u64 0, .int .i64 0, .int .i64 0] 111))
        rw [show (⟨#[46, 91, 93, 92, 42, 94, 36, 47, 40, 41, 124, 43, 63, 123, 125]⟩ : ByteArray).data.toList = escE from rfl] at h9
        have HE := Lib.hid (show ans = escT escE r by rw [ea, e92]; simp [extT])
        obtain ⟨⟨T, n⟩, hT⟩ : ∃ T, T = escT escE r := ⟨_, rfl⟩
        rw [← hT] at h9 HE
        clear hT
        unfold TokAns Tok.v at h9
        have H9 := Lib.hid h9
        clear h9 hl hz hM ea e92 n46 n91 hdr hbk hq
        go_enter Try.func73, Try.ntmps73
        go_wp2_with fail
        go_at_call 81
        refine H9.out.mono ?_
        rintro e w1 ⟨rfl, hb1⟩
        obtain ⟨⟨k0, k1, k2, k3, k4, k5, k6⟩, f0, f1, f2, f3, f4, f5, f6⟩ := box7 hb1 (by simp)
        have HB := Lib.hid ((bA w _).trans (hb1.mono (by simp)))
        clear hb1
        go_wp2_with fail
        refine bodyPost_ret (v := .tuple #[T.v, .int .i64 (n : Int)]) (by simp [results, Try.results73, go_sem, Tok.v, k0, k1, k2, k3, k4, k5, k6]) rfl ⟨by rw [HE.out], ?_⟩
        exact below7 HB.out (Nat.le_refl _) _ _ _ _ _ _ _
      · have n92 : c ≠ 92 := e92
        clear e92
        by_cases e94 : c = 94
        · have hq : True := trivial
          have t46 : ((c.toNat : Int) == 46) = false := byte_f (k := 46) (n := 46) rfl n46
          have t91 : ((c.toNat : Int) == 91) = false := byte_f (k := 91) (n := 91) rfl n91
          have t92 : ((c.toNat : Int) == 92) = false := byte_f (k := 92) (n := 92) rfl n92
          have t94 : ((c.toNat : Int) == 94) = true := byte_t (k := 94) (n := 94) rfl e94
          have HE := Lib.hid (show ans = (Tok.of 2, 1) by rw [ea, e94]; simp [extT])
          clear hl hz hM ea e94 n46 n91 n92 hdr hbk hq
          go_enter Try.func73, Try.ntmps73
          go_wp2_with fail
          refine bodyPost_ret (v := .tuple #[.agg #[.int .i64 2, .int .u64 0, .int .u64 0, .int .u64 0, .int .u64 0, .int .i64 0, .int .i64 0], .int .i64 1]) (by simp [results, Try.results73, go_sem]) rfl ⟨by rw [HE.out]; rfl, ?_⟩
          exact bA w _
        · have n94 : c ≠ 94 := e94
          clear e94
          by_cases e36 : c = 36
          · have hq : True := trivial
            have t46 : ((c.toNat : Int) == 46) = false := byte_f (k := 46) (n := 46) rfl n46
            have t91 : ((c.toNat : Int) == 91) = false := byte_f (k := 91) (n := 91) rfl n91
            have t92 : ((c.toNat : Int) == 92) = false := byte_f (k := 92) (n := 92) rfl n92
            have t94 : ((c.toNat : Int) == 94) = false := byte_f (k := 94) (n := 94) rfl n94
            have t36 : ((c.toNat : Int) == 36) = true := byte_t (k := 36) (n := 36) rfl e36
            have HE := Lib.hid (show ans = (Tok.of 3, 1) by rw [ea, e36]; simp [extT])
            clear hl hz hM ea e36 n46 n91 n92 n94 hdr hbk hq
            go_enter Try.func73, Try.ntmps73
            go_wp2_with fail
            refine bodyPost_ret (v := .tuple #[.agg #[.int .i64 3, .int .u64 0, .int .u64 0, .int .u64 0, .int .u64 0, .int .i64 0, .int .i64 0], .int .i64 1]) (by simp [results, Try.results73, go_sem]) rfl ⟨by rw [HE.out]; rfl, ?_⟩
            exact bA w _
          · have n36 : c ≠ 36 := e36
            clear e36
            by_cases e40 : c = 40
            · have hq : True := trivial
              have t46 : ((c.toNat : Int) == 46) = false := byte_f (k := 46) (n := 46) rfl n46
              have t91 : ((c.toNat : Int) == 91) = false := byte_f (k := 91) (n := 91) rfl n91
              have t92 : ((c.toNat : Int) == 92) = false := byte_f (k := 92) (n := 92) rfl n92
              have t94 : ((c.toNat : Int) == 94) = false := byte_f (k := 94) (n := 94) rfl n94
              have t36 : ((c.toNat : Int) == 36) = false := byte_f (k := 36) (n := 36) rfl n36
              have t40 : ((c.toNat : Int) == 40) = true := byte_t (k := 40) (n := 40) rfl e40
              have HE := Lib.hid (show ans = (Tok.of 4, 1) by rw [ea, e40]; simp [extT])
              clear hl hz hM ea e40 n46 n91 n92 n94 n36 hdr hbk hq
              go_enter Try.func73, Try.ntmps73
              go_wp2_with fail
              refine bodyPost_ret (v := .tuple #[.agg #[.int .i64 4, .int .u64 0, .int .u64 0, .int .u64 0, .int .u64 0, .int .i64 0, .int .i64 0], .int .i64 1]) (by simp [results, Try.results73, go_sem]) rfl ⟨by rw [HE.out]; rfl, ?_⟩
              exact bA w _
            · have n40 : c ≠ 40 := e40
              clear e40
              by_cases e41 : c = 41
              · have hq : True := trivial
                have t46 : ((c.toNat : Int) == 46) = false := byte_f (k := 46) (n := 46) rfl n46
                have t91 : ((c.toNat : Int) == 91) = false := byte_f (k := 91) (n := 91) rfl n91
                have t92 : ((c.toNat : Int) == 92) = false := byte_f (k := 92) (n := 92) rfl n92
                have t94 : ((c.toNat : Int) == 94) = false := byte_f (k := 94) (n := 94) rfl n94
                have t36 : ((c.toNat : Int) == 36) = false := byte_f (k := 36) (n := 36) rfl n36
                have t40 : ((c.toNat : Int) == 40) = false := byte_f (k := 40) (n := 40) rfl n40
                have t41 : ((c.toNat : Int) == 41) = true := byte_t (k := 41) (n := 41) rfl e41
                have HE := Lib.hid (show ans = (Tok.of 5, 1) by rw [ea, e41]; simp [extT])
                clear hl hz hM ea e41 n46 n91 n92 n94 n36 n40 hdr hbk hq
                go_enter Try.func73, Try.ntmps73
                go_wp2_with fail
                refine bodyPost_ret (v := .tuple #[.agg #[.int .i64 5, .int .u64 0, .int .u64 0, .int .u64 0, .int .u64 0, .int .i64 0, .int .i64 0], .int .i64 1]) (by simp [results, Try.results73, go_sem]) rfl ⟨by rw [HE.out]; rfl, ?_⟩
                exact bA w _
              · have n41 : c ≠ 41 := e41
                clear e41
                by_cases e124 : c = 124
                · have hq : True := trivial
                  have t46 : ((c.toNat : Int) == 46) = false := byte_f (k := 46) (n := 46) rfl n46
                  have t91 : ((c.toNat : Int) == 91) = false := byte_f (k := 91) (n := 91) rfl n91
                  have t92 : ((c.toNat : Int) == 92) = false := byte_f (k := 92) (n := 92) rfl n92
                  have t94 : ((c.toNat : Int) == 94) = false := byte_f (k := 94) (n := 94) rfl n94
                  have t36 : ((c.toNat : Int) == 36) = false := byte_f (k := 36) (n := 36) rfl n36
                  have t40 : ((c.toNat : Int) == 40) = false := byte_f (k := 40) (n := 40) rfl n40
                  have t41 : ((c.toNat : Int) == 41) = false := byte_f (k := 41) (n := 41) rfl n41
                  have t124 : ((c.toNat : Int) == 124) = true := byte_t (k := 124) (n := 124) rfl e124
                  have HE := Lib.hid (show ans = (Tok.of 6, 1) by rw [ea, e124]; simp [extT])
                  clear hl hz hM ea e124 n46 n91 n92 n94 n36 n40 n41 hdr hbk hq
                  go_enter Try.func73, Try.ntmps73
                  go_wp2_with fail
                  refine bodyPost_ret (v := .tuple #[.agg #[.int .i64 6, .int .u64 0, .int .u64 0, .int .u64 0, .int .u64 0, .int .i64 0, .int .i64 0], .int .i64 1]) (by simp [results, Try.results73, go_sem]) rfl ⟨by rw [HE.out]; rfl, ?_⟩
                  exact bA w _
                · have n124 : c ≠ 124 := e124
                  clear e124
                  by_cases e42 : c = 42
                  · have hq : True := trivial
                    have t46 : ((c.toNat : Int) == 46) = false := byte_f (k := 46) (n := 46) rfl n46
                    have t91 : ((c.toNat : Int) == 91) = false := byte_f (k := 91) (n := 91) rfl n91
                    have t92 : ((c.toNat : Int) == 92) = false := byte_f (k := 92) (n := 92) rfl n92
                    have t94 : ((c.toNat : Int) == 94) = false := byte_f (k := 94) (n := 94) rfl n94
                    have t36 : ((c.toNat : Int) == 36) = false := byte_f (k := 36) (n := 36) rfl n36
                    have t40 : ((c.toNat : Int) == 40) = false := byte_f (k := 40) (n := 40) rfl n40
                    have t41 : ((c.toNat : Int) == 41) = false := byte_f (k := 41) (n := 41) rfl n41
                    have t124 : ((c.toNat : Int) == 124) = false := byte_f (k := 124) (n := 124) rfl n124
                    have t42 : ((c.toNat : Int) == 42) = true := byte_t (k := 42) (n := 42) rfl e42
                    have h9 := repetition_is 0 (-1) (w.alloc (.cells #[.int .i64 0, .int .u64 0, .int .u64 0, .int .u64 0, .int .u64 0, .int .i64 0, .int .i64 0] 111))
                    have HE := Lib.hid (show ans = (repT 0 (-1), 1) by rw [ea, e42]; simp [extT])
                    obtain ⟨T, hT⟩ : ∃ T, T = repT 0 (-1) := ⟨_, rfl⟩
                    rw [← hT] at h9 HE
                    clear hT
                    unfold TokOne Tok.v at h9
                    have H9 := Lib.hid h9
                    clear h9 hl hz hM ea e42 n46 n91 n92 n94 n36 n40 n41 n124 hdr hbk hq
                    go_enter Try.func73, Try.ntmps73
                    go_wp2_with fail
                    go_at_call 82
                    refine H9.out.mono ?_
                    rintro e w1 ⟨rfl, hb1⟩
                    obtain ⟨⟨k0, k1, k2, k3, k4, k5, k6⟩, f0, f1, f2, f3, f4, f5, f6⟩ := box7 hb1 (by simp)
                    have HB := Lib.hid ((bA w _).trans (hb1.mono (by simp)))
                    clear hb1
                    go_wp2_with fail
                    refine bodyPost_ret (v := .tuple #[T.v, .int .i64 1]) (by simp [results, Try.results73, go_sem, Tok.v, k0, k1, k2, k3, k4, k5, k6]) rfl ⟨by rw [HE.out]; rfl, ?_⟩
                    exact below7 HB.out (Nat.le_refl _) _ _ _ _ _ _ _
                  · have n42 : c ≠ 42 := e42
                    clear e42
                    by_cases e43 : c = 43
                    · have hq : True := trivial
                      have t46 : ((c.toNat : Int) == 46) = false := byte_f (k := 46) (n := 46) rfl n46
                      have t91 : ((c.toNat : Int) == 91) = false := byte_f (k := 91) (n := 91) rfl n91
                      have t92 : ((c.toNat : Int) == 92) = false := byte_f (k := 92) (n := 92) rfl n92
                      have t94 : ((c.toNat : Int) == 94) = false := byte_f (k := 94) (n := 94) rfl n94
                      have t36 : ((c.toNat : Int) == 36) = false := byte_f (k := 36) (n := 36) rfl n36
                      have t40 : ((c.toNat : Int) == 40) = false := byte_f (k := 40) (n := 40) rfl n40
                      have t41 : ((c.toNat : Int) == 41) = false := byte_f (k := 41) (n := 41) rfl n41
                      have t124 : ((c.toNat : Int) == 124) = false := byte_f (k := 124) (n := 124) rfl n124
                      have t42 : ((c.toNat : Int) == 42) = false := byte_f (k := 42) (n := 42) rfl n42
                      have t43 : ((c.toNat : Int) == 43) = true := byte_t (k := 43) (n := 43) rfl e43
                      have h9 := repetition_is 1 (-1) (w.alloc (.cells #[.int .i64 0, .int .u64 0, .int .u64 0, .int .u64 0, .int .u64 0, .int .i64 0, .int .i64 0] 111))
                      have HE := Lib.hid (show ans = (repT 1 (-1), 1) by rw [ea, e43]; simp [extT])
                      obtain ⟨T, hT⟩ : ∃ T, T = repT 1 (-1) := ⟨_, rfl⟩
                      rw [← hT] at h9 HE
                      clear hT
                      unfold TokOne Tok.v at h9
                      have H9 := Lib.hid h9
                      clear h9 hl hz hM ea e43 n46 n91 n92 n94 n36 n40 n41 n124 n42 hdr hbk hq
                      go_enter Try.func73, Try.ntmps73
                      go_wp2_with fail
                      go_at_call 82
                      refine H9.out.mono ?_
                      rintro e w1 ⟨rfl, hb1⟩
                      obtain ⟨⟨k0, k1, k2, k3, k4, k5, k6⟩, f0, f1, f2, f3, f4, f5, f6⟩ := box7 hb1 (by simp)
                      have HB := Lib.hid ((bA w _).trans (hb1.mono (by simp)))
                      clear hb1
                      go_wp2_with fail
                      refine bodyPost_ret (v := .tuple #[T.v, .int .i64 1]) (by simp [results, Try.results73, go_sem, Tok.v, k0, k1, k2, k3, k4, k5, k6]) rfl ⟨by rw [HE.out]; rfl, ?_⟩
                      exact below7 HB.out (Nat.le_refl _) _ _ _ _ _ _ _
                    · have n43 : c ≠ 43 := e43
                      clear e43
                      by_cases e63 : c = 63
                      · have hq : True := trivial
                        have t46 : ((c.toNat : Int) == 46) = false := byte_f (k := 46) (n := 46) rfl n46
                        have t91 : ((c.toNat : Int) == 91) = false := byte_f (k := 91) (n := 91) rfl n91
                        have t92 : ((c.toNat : Int) == 92) = false := byte_f (k := 92) (n := 92) rfl n92
                        have t94 : ((c.toNat : Int) == 94) = false := byte_f (k := 94) (n := 94) rfl n94
                        have t36 : ((c.toNat : Int) == 36) = false := byte_f (k := 36) (n := 36) rfl n36
                        have t40 : ((c.toNat : Int) == 40) = false := byte_f (k := 40) (n := 40) rfl n40
                        have t41 : ((c.toNat : Int) == 41) = false := byte_f (k := 41) (n := 41) rfl n41
                        have t124 : ((c.toNat : Int) == 124) = false := byte_f (k := 124) (n := 124) rfl n124
                        have t42 : ((c.toNat : Int) == 42) = false := byte_f (k := 42) (n := 42) rfl n42
                        have t43 : ((c.toNat : Int) == 43) = false := byte_f (k := 43) (n := 43) rfl n43
                        have t63 : ((c.toNat : Int) == 63) = true := byte_t (k := 63) (n := 63) rfl e63
                        have h9 := repetition_is 0 1 (w.alloc (.cells #[.int .i64 0, .int .u64 0, .int .u64 0, .int .u64 0, .int .u64 0, .int .i64 0, .int .i64 0] 111))
                        have HE := Lib.hid (show ans = (repT 0 1, 1) by rw [ea, e63]; simp [extT])
                        obtain ⟨T, hT⟩ : ∃ T, T = repT 0 1 := ⟨_, rfl⟩
                        rw [← hT] at h9 HE
                        clear hT
                        unfold TokOne Tok.v at h9
                        have H9 := Lib.hid h9
                        clear h9 hl hz hM ea e63 n46 n91 n92 n94 n36 n40 n41 n124 n42 n43 hdr hbk hq
                        go_enter Try.func73, Try.ntmps73
                        go_wp2_with fail
                        go_at_call 82
                        refine H9.out.mono ?_
                        rintro e w1 ⟨rfl, hb1⟩
                        obtain ⟨⟨k0, k1, k2, k3, k4, k5, k6⟩, f0, f1, f2, f3, f4, f5, f6⟩ := box7 hb1 (by simp)
                        have HB := Lib.hid ((bA w _).trans (hb1.mono (by simp)))
                        clear hb1
                        go_wp2_with fail
                        refine bodyPost_ret (v := .tuple #[T.v, .int .i64 1]) (by simp [results, Try.results73, go_sem, Tok.v, k0, k1, k2, k3, k4, k5, k6]) rfl ⟨by rw [HE.out]; rfl, ?_⟩
                        exact below7 HB.out (Nat.le_refl _) _ _ _ _ _ _ _
                      · have n63 : c ≠ 63 := e63
                        clear e63
                        by_cases e123 : c = 123
                        · have hq : True := trivial
                          have t46 : ((c.toNat : Int) == 46) = false := byte_f (k := 46) (n := 46) rfl n46
                          have t91 : ((c.toNat : Int) == 91) = false := byte_f (k := 91) (n := 91) rfl n91
                          have t92 : ((c.toNat : Int) == 92) = false := byte_f (k := 92) (n := 92) rfl n92
                          have t94 : ((c.toNat : Int) == 94) = false := byte_f (k := 94) (n := 94) rfl n94
                          have t36 : ((c.toNat : Int) == 36) = false := byte_f (k := 36) (n := 36) rfl n36
                          have t40 : ((c.toNat : Int) == 40) = false := byte_f (k := 40) (n := 40) rfl n40
                          have t41 : ((c.toNat : Int) == 41) = false := byte_f (k := 41) (n := 41) rfl n41
                          have t124 : ((c.toNat : Int) == 124) = false := byte_f (k := 124) (n := 124) rfl n124
                          have t42 : ((c.toNat : Int) == 42) = false := byte_f (k := 42) (n := 42) rfl n42
                          have t43 : ((c.toNat : Int) == 43) = false := byte_f (k := 43) (n := 43) rfl n43
                          have t63 : ((c.toNat : Int) == 63) = false := byte_f (k := 63) (n := 63) rfl n63
                          have t123 : ((c.toNat : Int) == 123) = true := byte_t (k := 123) (n := 123) rfl e123
                          have h9 := interval_tok s ⟨#[123]⟩ ⟨#[125]⟩ (r := r) hs hdr hz (by decide) (w.alloc (.cells #[.int .i64 0, .int .u64 0, .int .u64 0, .int .u64 0, .int .u64 0, .int .i64 0, .int .i64 0] 111)) (hM.below (bA w _))
                          rw [show (⟨#[123]⟩ : ByteArray).size = 1 from rfl, show (⟨#[125]⟩ : ByteArray).data.toList = [125] from rfl] at h9
                          have HE := Lib.hid (show ans = intT 1 [125] r by rw [ea, e123]; simp [extT])
                          obtain ⟨⟨T, n⟩, hT⟩ : ∃ T, T = intT 1 [125] r := ⟨_, rfl⟩
                          rw [← hT] at h9 HE
                          clear hT
                          unfold TokAns Tok.v at h9
                          have H9 := Lib.hid h9
                          clear h9 hl hz hM ea e123 n46 n91 n92 n94 n36 n40 n41 n124 n42 n43 n63 hdr hbk hq
                          go_enter Try.func73, Try.ntmps73
                          go_wp2_with fail
                          go_at_call 83
                          refine H9.out.mono ?_
                          rintro e w1 ⟨rfl, hb1⟩
                          obtain ⟨⟨k0, k1, k2, k3, k4, k5, k6⟩, f0, f1, f2, f3, f4, f5, f6⟩ := box7 hb1 (by simp)
                          have HB := Lib.hid ((bA w _).trans (hb1.mono (by simp)))
                          clear hb1
                          go_wp2_with fail
                          refine bodyPost_ret (v := .tuple #[T.v, .int .i64 (n : Int)]) (by simp [results, Try.results73, go_sem, Tok.v, k0, k1, k2, k3, k4, k5, k6]) rfl ⟨by rw [HE.out], ?_⟩
                          exact below7 HB.out (Nat.le_refl _) _ _ _ _ _ _ _
                        · have n123 : c ≠ 123 := e123
                          clear e123
                          have t46 : ((c.toNat : Int) == 46) = false := byte_f (k := 46) (n := 46) rfl n46
                          have t91 : ((c.toNat : Int) == 91) = false := byte_f (k := 91) (n := 91) rfl n91
                          have t92 : ((c.toNat : Int) == 92) = false := byte_f (k := 92) (n := 92) rfl n92
                          have t94 : ((c.toNat : Int) == 94) = false := byte_f (k := 94) (n := 94) rfl n94
                          have t36 : ((c.toNat : Int) == 36) = false := byte_f (k := 36) (n := 36) rfl n36
                          have t40 : ((c.toNat : Int) == 40) = false := byte_f (k := 40) (n := 40) rfl n40
                          have t41 : ((c.toNat : Int) == 41) = false := byte_f (k := 41) (n := 41) rfl n41
                          have t124 : ((c.toNat : Int) == 124) = false := byte_f (k := 124) (n := 124) rfl n124
                          have t42 : ((c.toNat : Int) == 42) = false := byte_f (k := 42) (n := 42) rfl n42
                          have t43 : ((c.toNat : Int) == 43) = false := byte_f (k := 43) (n := 43) rfl n43
                          have t63 : ((c.toNat : Int) == 63) = false := byte_f (k := 63) (n := 63) rfl n63
                          have t123 : ((c.toNat : Int) == 123) = false := byte_f (k := 123) (n := 123) rfl n123
                          have h9 := itself_is c.toNat (UInt8.toNat_lt _) (w.alloc (.cells #[.int .i64 0, .int .u64 0, .int .u64 0, .int .u64 0, .int .u64 0, .int .i64 0, .int .i64 0] 111))
                          have HE := Lib.hid (show ans = (oneT c.toNat, 1) by rw [ea]; simp [extT, n46, n91, n92, n94, n36, n40, n41, n124, n42, n43, n63, n123])
                          obtain ⟨T, hT⟩ : ∃ T, T = oneT c.toNat := ⟨_, rfl⟩
                          rw [← hT] at h9 HE
                          clear hT
                          unfold TokOne Tok.v at h9
                          have H9 := Lib.hid h9
                          clear h9 hl hz hM ea n46 n91 n92 n94 n36 n40 n41 n124 n42 n43 n63 n123 hdr hbk
                          go_enter Try.func73, Try.ntmps73
                          go_wp2_with fail
                          go_at_call 84
                          refine H9.out.mono ?_
                          rintro e w1 ⟨rfl, hb1⟩
                          obtain ⟨⟨k0, k1, k2, k3, k4, k5, k6⟩, f0, f1, f2, f3, f4, f5, f6⟩ := box7 hb1 (by simp)
                          have HB := Lib.hid ((bA w _).trans (hb1.mono (by simp)))
                          clear hb1
                          go_wp2_with fail
                          refine bodyPost_ret (v := .tuple #[T.v, .int .i64 1]) (by simp [results, Try.results73, go_sem, Tok.v, k0, k1, k2, k3, k4, k5, k6]) rfl ⟨by rw [HE.out]; rfl, ?_⟩
                          exact below7 HB.out (Nat.le_refl _) _ _ _ _ _ _ _
open Go.RowKit Go.Deep
set_option maxRecDepth 100000 in
set_option maxHeartbeats 8000000 in
theorem basic_token {bk : BkF} (hbk : BkIs bk) (s : ByteArray) (ah : Int) {c : UInt8} {r : List UInt8} (hl : s.data.toList = c :: r) (hz : s.size ≤ 4096) (w : World) (hM : MaxAt w) : Calls Try.prog 74 #[.string s, .int .i64 ah] w (TokAns (basT bk ah (c :: r)) w) := by
  have hs : 0 < s.size := by rw [size_cons hl]; omega
  have hsi : (0 : Int) < (s.size : Int) := by omega
  have h0 := at_of hl (i := 0) (c := c) rfl
  have hdr := drop_one hl
  unfold TokAns
  obtain ⟨ans, ea⟩ : ∃ x, x = basT bk ah (c :: r) := ⟨_, rfl⟩
  rw [← ea]
  by_cases e46 : c = 46
  · have hq : True := trivial
    have t46 : ((c.toNat : Int) == 46) = true := byte_t (k := 46) (n := 46) rfl e46
    have h9 := any_byte (w.alloc (.cells #[.int .i64 0, .int .u64 0, .int .u64 0, .int .u64 0, .int .u64 0, .int .i64 0, .int .i64 0] 111))
    have HE := Lib.hid (show ans = (anyT, 1) by rw [ea, e46]; simp [basT])
    obtain ⟨T, hT⟩ : ∃ T, T = anyT := ⟨_, rfl⟩
    rw [← hT] at h9 HE
    clear hT
    unfold TokOne Tok.v at h9
    have H9 := Lib.hid h9
    clear h9 hl hz hM ea e46  hdr hbk hq
    go_enter Try.func74, Try.ntmps74
    go_wp2_with fail
    go_at_call 79
    refine H9.out.mono ?_
    rintro e w1 ⟨rfl, hb1⟩
    obtain ⟨⟨k0, k1, k2, k3, k4, k5, k6⟩, f0, f1, f2, f3, f4, f5, f6⟩ := box7 hb1 (by simp)
    have HB := Lib.hid ((bA w _).trans (hb1.mono (by simp)))
    clear hb1
    go_wp2_with fail
    refine bodyPost_ret (v := .tuple #[T.v, .int .i64 1]) (by simp [results, Try.results74, go_sem, Tok.v, k0, k1, k2, k3, k4, k5, k6]) rfl ⟨by rw [HE.out]; rfl, ?_⟩
    exact below7 HB.out (Nat.le_refl _) _ _ _ _ _ _ _
  · have n46 : c ≠ 46 := e46
    clear e46
    by_cases e91 : c = 91
    · have hq : True := trivial
      have t46 : ((c.toNat : Int) == 46) = false := byte_f (k := 46) (n := 46) rfl n46
      have t91 : ((c.toNat : Int) == 91) = true := byte_t (k := 91) (n := 91) rfl e91
      have h9 := bracket_tok hbk s hl hz (w.alloc (.cells #[.int .i64 0, .int .u64 0, .int .u64 0, .int .u64 0, .int .u64 0, .int .i64 0, .int .i64 0] 111)) (hM.below (bA w _))
      have HE := Lib.hid (show ans = brkT bk r by rw [ea, e91]; simp [basT])
      obtain ⟨⟨T, n⟩, hT⟩ : ∃ T, T = brkT bk r := ⟨_, rfl⟩
      rw [← hT] at h9 HE
      clear hT
      unfold TokAns Tok.v at h9
      have H9 := Lib.hid h9
      clear h9 hl hz hM ea e91 n46 hdr hbk hq
      go_enter Try.func74, Try.ntmps74
      go_wp2_with fail
      go_at_call 80
      refine H9.out.mono ?_
      rintro e w1 ⟨rfl, hb1⟩
      obtain ⟨⟨k0, k1, k2, k3, k4, k5, k6⟩, f0, f1, f2, f3, f4, f5, f6⟩ := box7 hb1 (by simp)
      have HB := Lib.hid ((bA w _).trans (hb1.mono (by simp)))
      clear hb1
      go_wp2_with fail
      refine bodyPost_ret (v := .tuple #[T.v, .int .i64 (n : Int)]) (by simp [results, Try.results74, go_sem, Tok.v, k0, k1, k2, k3, k4, k5, k6]) rfl ⟨by rw [HE.out], ?_⟩
      exact below7 HB.out (Nat.le_refl _) _ _ _ _ _ _ _
    · have n91 : c ≠ 91 := e91
      clear e91
      by_cases e92 : c = 92
      · have hq : True := trivial
        have t46 : ((c.toNat : Int) == 46) = false := byte_f (k := 46) (n := 46) rfl n46
        have t91 : ((c.toNat : Int) == 91) = false := byte_f (k := 91) (n := 91) rfl n91
        have t92 : ((c.toNat : Int) == 92) = true := byte_t (k := 92) (n := 92) rfl e92
        have h9 := basic_escape s (by rw [hl, e92]) hz (w.alloc (.cells #[.int .i64 0, .int .u64 0, .int .u64 0, .int .u64 0, .int .u64 0, .int .i64 0, .int .i64 0] 111)) (hM.below (bA w _))
        have HE := Lib.hid (show ans = basEsc r by rw [ea, e92]; simp [basT])
        obtain ⟨⟨T, n⟩, hT⟩ : ∃ T, T = basEsc r := ⟨_, rfl⟩
        rw [← hT] at h9 HE
        clear hT
        unfold TokAns Tok.v at h9
        have H9 := Lib.hid h9
        clear h9 hl hz hM ea e92 n46 n91 hdr hbk hq
        go_enter Try.func74, Try.ntmps74
        go_wp2_with fail
        go_at_call 85
        refine H9.out.mono ?_
        rintro e w1 ⟨rfl, hb1⟩
        obtain ⟨⟨k0, k1, k2, k3, k4, k5, k6⟩, f0, f1, f2, f3, f4, f5, f6⟩ := box7 hb1 (by simp)
        have HB := Lib.hid ((bA w _).trans (hb1.mono (by simp)))
        clear hb1
        go_wp2_with fail
        refine bodyPost_ret (v := .tuple #[T.v, .int .i64 (n : Int)]) (by simp [results, Try.results74, go_sem, Tok.v, k0, k1, k2, k3, k4, k5, k6]) rfl ⟨by rw [HE.out], ?_⟩
        exact below7 HB.out (Nat.le_refl _) _ _ _ _ _ _ _
      · have n92 : c ≠ 92 := e92
        clear e92
        by_cases e94 : c = 94
        · have hq : True := trivial
          have t46 : ((c.toNat : Int) == 46) = false := byte_f (k := 46) (n := 46) rfl n46
          have t91 : ((c.toNat : Int) == 91) = false := byte_f (k := 91) (n := 91) rfl n91
          have t92 : ((c.toNat : Int) == 92) = false := byte_f (k := 92) (n := 92) rfl n92
          have t94 : ((c.toNat : Int) == 94) = true := byte_t (k := 94) (n := 94) rfl e94
          by_cases ha : ah = 4
          · have ga : (ah == 4) = true := by rw [beq_iff_eq]; exact ha
            have HE := Lib.hid (show ans = (Tok.of 2, 1) by rw [ea, e94]; simp [basT, ha])
            clear hl hz hM ea e94 n46 n91 n92 hdr hbk hq ha
            go_enter Try.func74, Try.ntmps74
            go_wp2_with fail
            refine bodyPost_ret (v := .tuple #[.agg #[.int .i64 2, .int .u64 0, .int .u64 0, .int .u64 0, .int .u64 0, .int .i64 0, .int .i64 0], .int .i64 1]) (by simp [results, Try.results74, go_sem]) rfl ⟨by rw [HE.out]; rfl, ?_⟩
            exact bA w _
          · have ga : (ah == 4) = false := by rw [beq_eq_false_iff_ne]; exact ha
            have h9 := itself_is c.toNat (UInt8.toNat_lt _) (w.alloc (.cells #[.int .i64 0, .int .u64 0, .int .u64 0, .int .u64 0, .int .u64 0, .int .i64 0, .int .i64 0] 111))
            have HE := Lib.hid (show ans = (oneT c.toNat, 1) by rw [ea, e94]; simp [basT, ha])
            obtain ⟨T, hT⟩ : ∃ T, T = oneT c.toNat := ⟨_, rfl⟩
            rw [← hT] at h9 HE
            clear hT
            unfold TokOne Tok.v at h9
            have H9 := Lib.hid h9
            clear h9 hl hz hM ea e94 n46 n91 n92 hdr hbk ha hq
            go_enter Try.func74, Try.ntmps74
            go_wp2_with fail
            go_at_call 84
            refine H9.out.mono ?_
            rintro e w1 ⟨rfl, hb1⟩
            obtain ⟨⟨k0, k1, k2, k3, k4, k5, k6⟩, f0, f1, f2, f3, f4, f5, f6⟩ := box7 hb1 (by simp)
            have HB := Lib.hid ((bA w _).trans (hb1.mono (by simp)))
            clear hb1
            go_wp2_with fail
            refine bodyPost_ret (v := .tuple #[T.v, .int .i64 1]) (by simp [results, Try.results74, go_sem, Tok.v, k0, k1, k2, k3, k4, k5, k6]) rfl ⟨by rw [HE.out]; rfl, ?_⟩
            exact below7 HB.out (Nat.le_refl _) _ _ _ _ _ _ _
        · have n94 : c ≠ 94 := e94
          clear e94
          by_cases e36 : c = 36
          · have hq : True := trivial
            have t46 : ((c.toNat : Int) == 46) = false := byte_f (k := 46) (n := 46) rfl n46
            have t91 : ((c.toNat : Int) == 91) = false := byte_f (k := 91) (n := 91) rfl n91
            have t92 : ((c.toNat : Int) == 92) = false := byte_f (k := 92) (n := 92) rfl n92
            have t94 : ((c.toNat : Int) == 94) = false := byte_f (k := 94) (n := 94) rfl n94
            have t36 : ((c.toNat : Int) == 36) = true := byte_t (k := 36) (n := 36) rfl e36
            have HPX := Lib.hid (has_prefix s ⟨#[36, 92, 41]⟩)
            have px : pre ⟨#[36, 92, 41]⟩ s = [92, 41].isPrefixOf r := by unfold pre; rw [hl, e36]; rfl
            rw [px] at HPX
            have hem : (s.toList == [36]) = r.isEmpty := by
              rw [ByteArray.toList_eq, hl, e36]
              cases r <;> rfl
            cases hr : r.isEmpty with
            | true =>
              rw [hr] at hem
              have hr0 : r = [] := by simpa using hr
              have HE := Lib.hid (show ans = (Tok.of 3, 1) by rw [ea, e36]; simp [basT, hr0])
              clear hl hz hM ea e36 n46 n91 n92 n94 hdr hbk hq hr hr0 px
              go_enter Try.func74, Try.ntmps74
              go_wp2_with fail
              refine bodyPost_ret (v := .tuple #[.agg #[.int .i64 3, .int .u64 0, .int .u64 0, .int .u64 0, .int .u64 0, .int .i64 0, .int .i64 0], .int .i64 1]) (by simp [results, Try.results74, go_sem]) rfl ⟨by rw [HE.out]; rfl, ?_⟩
              exact bA w _
            | false =>
              rw [hr] at hem
              have hr0 : r ≠ [] := by intro h; rw [h] at hr; cases hr
              cases hp : [92, 41].isPrefixOf r with
              | true =>
                rw [hp] at HPX
                have HE := Lib.hid (show ans = (Tok.of 3, 1) by rw [ea, e36]; simp only [basT]; rw [if_neg (by decide), if_neg (by decide), if_neg (by decide), if_neg (fun h => by cases h.1), if_pos ⟨trivial, .inr hp⟩])
                clear hl hz hM ea e36 n46 n91 n92 n94 hdr hbk hq hr hr0 px hp
                go_enter Try.func74, Try.ntmps74
                go_wp2_with fail
                go_at_call 44
                refine (HPX.out _).mono ?_
                rintro e w0 ⟨rfl, rfl⟩
                go_wp2_with fail
                refine bodyPost_ret (v := .tuple #[.agg #[.int .i64 3, .int .u64 0, .int .u64 0, .int .u64 0, .int .u64 0, .int .i64 0, .int .i64 0], .int .i64 1]) (by simp [results, Try.results74, go_sem]) rfl ⟨by rw [HE.out]; rfl, ?_⟩
                exact bA w _
              | false =>
                rw [hp] at HPX
                have h9 := itself_is c.toNat (UInt8.toNat_lt _) (w.alloc (.cells #[.int .i64 0, .int .u64 0, .int .u64 0, .int .u64 0, .int .u64 0, .int .i64 0, .int .i64 0] 111))
                have HE := Lib.hid (show ans = (oneT c.toNat, 1) by rw [ea, e36]; simp only [basT]; rw [if_neg (by decide), if_neg (by decide), if_neg (by decide), if_neg (fun h => by cases h.1), if_neg (fun h => h.2.elim hr0 (fun h => by rw [hp] at h; cases h)), if_neg (fun h => by cases h.1)])
                obtain ⟨T, hT⟩ : ∃ T, T = oneT c.toNat := ⟨_, rfl⟩
                rw [← hT] at h9 HE
                clear hT
                unfold TokOne Tok.v at h9
                have H9 := Lib.hid h9
                clear h9 hl hz hM ea e36 n46 n91 n92 n94 hdr hbk hq hr hr0 px hp
                go_enter Try.func74, Try.ntmps74
                go_wp2_with fail
                go_at_call 44
                refine (HPX.out _).mono ?_
                rintro e w0 ⟨rfl, rfl⟩
                go_wp2_with fail
                go_at_call 84
                refine H9.out.mono ?_
                rintro e w1 ⟨rfl, hb1⟩
                obtain ⟨⟨k0, k1, k2, k3, k4, k5, k6⟩, f0, f1, f2, f3, f4, f5, f6⟩ := box7 hb1 (by simp)
                have HB := Lib.hid ((bA w _).trans (hb1.mono (by simp)))
                clear hb1
                go_wp2_with fail
                refine bodyPost_ret (v := .tuple #[T.v, .int .i64 1]) (by simp [results, Try.results74, go_sem, Tok.v, k0, k1, k2, k3, k4, k5, k6]) rfl ⟨by rw [HE.out]; rfl, ?_⟩
                exact below7 HB.out (Nat.le_refl _) _ _ _ _ _ _ _
          · have n36 : c ≠ 36 := e36
            clear e36
            by_cases e42 : c = 42
            · have hq : True := trivial
              have t46 : ((c.toNat : Int) == 46) = false := byte_f (k := 46) (n := 46) rfl n46
              have t91 : ((c.toNat : Int) == 91) = false := byte_f (k := 91) (n := 91) rfl n91
              have t92 : ((c.toNat : Int) == 92) = false := byte_f (k := 92) (n := 92) rfl n92
              have t94 : ((c.toNat : Int) == 94) = false := byte_f (k := 94) (n := 94) rfl n94
              have t36 : ((c.toNat : Int) == 36) = false := byte_f (k := 36) (n := 36) rfl n36
              have t42 : ((c.toNat : Int) == 42) = true := byte_t (k := 42) (n := 42) rfl e42
              by_cases h4 : ah = 4
              · have g4 : (ah == 4) = true := by rw [beq_iff_eq]; exact h4
                have g4n : (ah != 4) = false := by rw [bne, g4]; rfl
                have h9 := itself_is c.toNat (UInt8.toNat_lt _) (w.alloc (.cells #[.int .i64 0, .int .u64 0, .int .u64 0, .int .u64 0, .int .u64 0, .int .i64 0, .int .i64 0] 111))
                have HE := Lib.hid (show ans = (oneT c.toNat, 1) by rw [ea, e42]; simp [basT, h4])
                obtain ⟨T, hT⟩ : ∃ T, T = oneT c.toNat := ⟨_, rfl⟩
                rw [← hT] at h9 HE
                clear hT
                unfold TokOne Tok.v at h9
                have H9 := Lib.hid h9
                clear h9 hl hz hM ea e42 n46 n91 n92 n94 n36 hdr hbk hq h4
                go_enter Try.func74, Try.ntmps74
                go_wp2_with fail
                go_at_call 84
                refine H9.out.mono ?_
                rintro e w1 ⟨rfl, hb1⟩
                obtain ⟨⟨k0, k1, k2, k3, k4, k5, k6⟩, f0, f1, f2, f3, f4, f5, f6⟩ := box7 hb1 (by simp)
                have HB := Lib.hid ((bA w _).trans (hb1.mono (by simp)))
                clear hb1
                go_wp2_with fail
                refine bodyPost_ret (v := .tuple #[T.v, .int .i64 1]) (by simp [results, Try.results74, go_sem, Tok.v, k0, k1, k2, k3, k4, k5, k6]) rfl ⟨by rw [HE.out]; rfl, ?_⟩
                exact below7 HB.out (Nat.le_refl _) _ _ _ _ _ _ _
              · have g4 : (ah == 4) = false := by rw [beq_eq_false_iff_ne]; exact h4
                have g4n : (ah != 4) = true := by rw [bne, g4]; rfl
                by_cases h2 : ah = 2
                · have g2 : (ah == 2) = true := by rw [beq_iff_eq]; exact h2
                  have g2n : (ah != 2) = false := by rw [bne, g2]; rfl
                  have h9 := itself_is c.toNat (UInt8.toNat_lt _) (w.alloc (.cells #[.int .i64 0, .int .u64 0, .int .u64 0, .int .u64 0, .int .u64 0, .int .i64 0, .int .i64 0] 111))
                  have HE := Lib.hid (show ans = (oneT c.toNat, 1) by rw [ea, e42]; simp [basT, h2])
                  obtain ⟨T, hT⟩ : ∃ T, T = oneT c.toNat := ⟨_, rfl⟩
                  rw [← hT] at h9 HE
                  clear hT
                  unfold TokOne Tok.v at h9
                  have H9 := Lib.hid h9
                  clear h9 hl hz hM ea e42 n46 n91 n92 n94 n36 hdr hbk hq h2 h4
                  go_enter Try.func74, Try.ntmps74
                  go_wp2_with fail
                  go_at_call 84
                  refine H9.out.mono ?_
                  rintro e w1 ⟨rfl, hb1⟩
                  obtain ⟨⟨k0, k1, k2, k3, k4, k5, k6⟩, f0, f1, f2, f3, f4, f5, f6⟩ := box7 hb1 (by simp)
                  have HB := Lib.hid ((bA w _).trans (hb1.mono (by simp)))
                  clear hb1
                  go_wp2_with fail
                  refine bodyPost_ret (v := .tuple #[T.v, .int .i64 1]) (by simp [results, Try.results74, go_sem, Tok.v, k0, k1, k2, k3, k4, k5, k6]) rfl ⟨by rw [HE.out]; rfl, ?_⟩
                  exact below7 HB.out (Nat.le_refl _) _ _ _ _ _ _ _
                · have g2 : (ah == 2) = false := by rw [beq_eq_false_iff_ne]; exact h2
                  have g2n : (ah != 2) = true := by rw [bne, g2]; rfl
                  have h9 := repetition_is 0 (-1) (w.alloc (.cells #[.int .i64 0, .int .u64 0, .int .u64 0, .int .u64 0, .int .u64 0, .int .i64 0, .int .i64 0] 111))
                  have HE := Lib.hid (show ans = (repT 0 (-1), 1) by rw [ea, e42]; simp [basT, h2, h4])
                  obtain ⟨T, hT⟩ : ∃ T, T = repT 0 (-1) := ⟨_, rfl⟩
                  rw [← hT] at h9 HE
                  clear hT
                  unfold TokOne Tok.v at h9
                  have H9 := Lib.hid h9
                  clear h9 hl hz hM ea e42 n46 n91 n92 n94 n36 hdr hbk hq h2 h4
                  go_enter Try.func74, Try.ntmps74
                  go_wp2_with fail
                  go_at_call 82
                  refine H9.out.mono ?_
                  rintro e w1 ⟨rfl, hb1⟩
                  obtain ⟨⟨k0, k1, k2, k3, k4, k5, k6⟩, f0, f1, f2, f3, f4, f5, f6⟩ := box7 hb1 (by simp)
                  have HB := Lib.hid ((bA w _).trans (hb1.mono (by simp)))
                  clear hb1
                  go_wp2_with fail
                  refine bodyPost_ret (v := .tuple #[T.v, .int .i64 1]) (by simp [results, Try.results74, go_sem, Tok.v, k0, k1, k2, k3, k4, k5, k6]) rfl ⟨by rw [HE.out]; rfl, ?_⟩
                  exact below7 HB.out (Nat.le_refl _) _ _ _ _ _ _ _
            · have n42 : c ≠ 42 := e42
              clear e42
              have t46 : ((c.toNat : Int) == 46) = false := byte_f (k := 46) (n := 46) rfl n46
              have t91 : ((c.toNat : Int) == 91) = false := byte_f (k := 91) (n := 91) rfl n91
              have t92 : ((c.toNat : Int) == 92) = false := byte_f (k := 92) (n := 92) rfl n92
              have t94 : ((c.toNat : Int) == 94) = false := byte_f (k := 94) (n := 94) rfl n94
              have t36 : ((c.toNat : Int) == 36) = false := byte_f (k := 36) (n := 36) rfl n36
              have t42 : ((c.toNat : Int) == 42) = false := byte_f (k := 42) (n := 42) rfl n42
              have h9 := itself_is c.toNat (UInt8.toNat_lt _) (w.alloc (.cells #[.int .i64 0, .int .u64 0, .int .u64 0, .int .u64 0, .int .u64 0, .int .i64 0, .int .i64 0] 111))
              have HE := Lib.hid (show ans = (oneT c.toNat, 1) by rw [ea]; simp [basT, n46, n91, n92, n94, n36, n42])
              obtain ⟨T, hT⟩ : ∃ T, T = oneT c.toNat := ⟨_, rfl⟩
              rw [← hT] at h9 HE
              clear hT
              unfold TokOne Tok.v at h9
              have H9 := Lib.hid h9
              clear h9 hl hz hM ea n46 n91 n92 n94 n36 n42 hdr hbk
              go_enter Try.func74, Try.ntmps74
              go_wp2_with fail
              go_at_call 84
              refine H9.out.mono ?_
              rintro e w1 ⟨rfl, hb1⟩
              obtain ⟨⟨k0, k1, k2, k3, k4, k5, k6⟩, f0, f1, f2, f3, f4, f5, f6⟩ := box7 hb1 (by simp)
              have HB := Lib.hid ((bA w _).trans (hb1.mono (by simp)))
              clear hb1
              go_wp2_with fail
              refine bodyPost_ret (v := .tuple #[T.v, .int .i64 1]) (by simp [results, Try.results74, go_sem, Tok.v, k0, k1, k2, k3, k4, k5, k6]) rfl ⟨by rw [HE.out]; rfl, ?_⟩
              exact below7 HB.out (Nat.le_refl _) _ _ _ _ _ _ _
set_option maxRecDepth 100000 in
set_option maxHeartbeats 1000000 in
theorem first_token {bk : BkF} (hbk : BkIs bk) (s : ByteArray) (ext : Bool) (ah : Int) {c : UInt8} {r : List UInt8} (hl : s.data.toList = c :: r) (hz : s.size ≤ 4096) (w : World) (hM : MaxAt w) : Calls Try.prog 68 #[.string s, .bool ext, .int .i64 ah] w (TokAns (firstT bk ext ah (c :: r)) w) := by
  cases ext with
  | true =>
    have h9 := extended_token hbk s hl hz (w.alloc (.cells #[.int .i64 0, .int .u64 0, .int .u64 0, .int .u64 0, .int .u64 0, .int .i64 0, .int .i64 0] 111)) (hM.below (bA w _))
    unfold firstT
    rw [if_pos rfl]
    obtain ⟨⟨T, n⟩, hT⟩ : ∃ T, T = extT bk (c :: r) := ⟨_, rfl⟩
    rw [← hT] at h9 ⊢
    unfold TokAns Tok.v at h9 ⊢
    have H9 := Lib.hid h9
    clear h9 hT hl hz hM hbk
    go_enter Try.func68, Try.ntmps68
    go_wp2_with fail
    go_at_call 73
    refine H9.out.mono ?_
    rintro e w1 ⟨rfl, hb1⟩
    obtain ⟨⟨k0, k1, k2, k3, k4, k5, k6⟩, f0, f1, f2, f3, f4, f5, f6⟩ := box7 hb1 (by simp)
    have HB := Lib.hid ((bA w _).trans (hb1.mono (by simp)))
    clear hb1
    go_wp2_with fail
    refine bodyPost_ret (v := .tuple #[T.v, .int .i64 (n : Int)]) (by simp [results, Try.results68, go_sem, Tok.v, k0, k1, k2, k3, k4, k5, k6]) rfl ⟨rfl, ?_⟩
    exact below7 HB.out (Nat.le_refl _) _ _ _ _ _ _ _
  | false =>
    have h9 := basic_token hbk s ah hl hz (w.alloc (.cells #[.int .i64 0, .int .u64 0, .int .u64 0, .int .u64 0, .int .u64 0, .int .i64 0, .int .i64 0] 111)) (hM.below (bA w _))
    unfold firstT
    rw [if_neg (fun h => by cases h)]
    obtain ⟨⟨T, n⟩, hT⟩ : ∃ T, T = basT bk ah (c :: r) := ⟨_, rfl⟩
    rw [← hT] at h9 ⊢
    unfold TokAns Tok.v at h9 ⊢
    have H9 := Lib.hid h9
    clear h9 hT hl hz hM hbk
    go_enter Try.func68, Try.ntmps68
    go_wp2_with fail
    go_at_call 74
    refine H9.out.mono ?_
    rintro e w1 ⟨rfl, hb1⟩
    obtain ⟨⟨k0, k1, k2, k3, k4, k5, k6⟩, f0, f1, f2, f3, f4, f5, f6⟩ := box7 hb1 (by simp)
    have HB := Lib.hid ((bA w _).trans (hb1.mono (by simp)))
    clear hb1
    go_wp2_with fail
    refine bodyPost_ret (v := .tuple #[T.v, .int .i64 (n : Int)]) (by simp [results, Try.results68, go_sem, Tok.v, k0, k1, k2, k3, k4, k5, k6]) rfl ⟨rfl, ?_⟩
    exact below7 HB.out (Nat.le_refl _) _ _ _ _ _ _ _
open Go.RowKit Go.Deep
theorem index_cut (l sep : List UInt8) (h : (Lib.cut l sep).2.2 = true) : (Lib.cut l sep).1.length + sep.length ≤ l.length := by
  unfold Lib.cut at h ⊢
  split at h
  · rename_i h0
    rw [if_pos h0]
    have hi := Lib.index_room l sep h0
    simp only [List.length_take]
    omega
  · cases h
theorem intT_len {m : Nat} {close r : List UInt8} (h : (intT m close r).1.kind ≠ 0) : (intT m close r).2 ≤ m + r.length := by
  unfold intT at h ⊢
  dsimp only at h ⊢
  cases hc : (Lib.cut r close).2.2 with
  | false => rw [hc] at h; simp [Tok.none] at h
  | true =>
    have := index_cut r close hc
    split
    · exact Nat.zero_le _
    · split
      · simp only; omega
      · split
        · simp only; omega
        · split
          · exact Nat.zero_le _
          · simp only; omega
theorem escT_len {them r : List UInt8} (h : (escT them r).1.kind ≠ 0) : (escT them r).2 ≤ 1 + r.length := by
  cases r with
  | nil => exact absurd rfl h
  | cons d q =>
    unfold escT
    dsimp only
    simp only [List.length_cons]
    split
    · simp only; omega
    · split
      · exact Nat.zero_le _
      · simp only; omega
theorem brkT_len {bk : BkF} (hbk : BkIs bk) {r : List UInt8} (hr : r.length ≤ 4096) (h : (brkT bk r).1.kind ≠ 0) : (brkT bk r).2 ≤ 1 + r.length := by
  unfold brkT at h ⊢
  cases hb : bk r with
  | none => rw [hb] at h; exact absurd rfl h
  | some x =>
    obtain ⟨S, n⟩ := x
    have := hbk.len r S n hr hb
    simp only
    omega
theorem firstT_len {bk : BkF} (hbk : BkIs bk) (ext : Bool) (ah : Int) (c : UInt8) (r : List UInt8) (hr : r.length ≤ 4096) (h : (firstT bk ext ah (c :: r)).1.kind ≠ 0) : (firstT bk ext ah (c :: r)).2 ≤ (c :: r).length := by
  have e1 : (c :: r).length = 1 + r.length := by simp; omega
  cases ext with
  | true =>
    unfold firstT extT at h ⊢
    rw [if_pos rfl] at h ⊢
    rw [e1]
    dsimp only at h ⊢
    by_cases h46 : c = 46
    · rw [if_pos h46]; simp only; omega
    · rw [if_neg h46] at h ⊢
      by_cases h91 : c = 91
      · rw [if_pos h91] at h ⊢; exact brkT_len hbk hr h
      · rw [if_neg h91] at h ⊢
        by_cases h92 : c = 92
        · rw [if_pos h92] at h ⊢; exact escT_len h
        · rw [if_neg h92] at h ⊢
          by_cases h94 : c = 94
          · rw [if_pos h94]; simp only; omega
          · rw [if_neg h94] at h ⊢
            by_cases h36 : c = 36
            · rw [if_pos h36]; simp only; omega
            · rw [if_neg h36] at h ⊢
              by_cases h40 : c = 40
              · rw [if_pos h40]; simp only; omega
              · rw [if_neg h40] at h ⊢
                by_cases h41 : c = 41
                · rw [if_pos h41]; simp only; omega
                · rw [if_neg h41] at h ⊢
                  by_cases h124 : c = 124
                  · rw [if_pos h124]; simp only; omega
                  · rw [if_neg h124] at h ⊢
                    by_cases h42 : c = 42
                    · rw [if_pos h42]; simp only; omega
                    · rw [if_neg h42] at h ⊢
                      by_cases h43 : c = 43
                      · rw [if_pos h43]; simp only; omega
                      · rw [if_neg h43] at h ⊢
                        by_cases h63 : c = 63
                        · rw [if_pos h63]; simp only; omega
                        · rw [if_neg h63] at h ⊢
                          by_cases h123 : c = 123
                          · rw [if_pos h123] at h ⊢; exact intT_len h
                          · rw [if_neg h123] at h ⊢
                            simp only; omega
  | false =>
    unfold firstT basT at h ⊢
    rw [if_neg (fun h => by cases h)] at h ⊢
    rw [e1]
    dsimp only at h ⊢
    by_cases h46 : c = 46
    · rw [if_pos h46]; simp only; omega
    · rw [if_neg h46] at h ⊢
      by_cases h91 : c = 91
      · rw [if_pos h91] at h ⊢; exact brkT_len hbk hr h
      · rw [if_neg h91] at h ⊢
        by_cases h92 : c = 92
        · rw [if_pos h92] at h ⊢
          unfold basEsc at h ⊢
          by_cases p1 : [40].isPrefixOf r = true
          · rw [if_pos p1]
            have := List.IsPrefix.length_le (List.isPrefixOf_iff_prefix.1 p1)
            simp only [List.length_cons, List.length_nil] at this ⊢
            omega
          · rw [if_neg p1] at h ⊢
            by_cases p2 : [41].isPrefixOf r = true
            · rw [if_pos p2]
              have := List.IsPrefix.length_le (List.isPrefixOf_iff_prefix.1 p2)
              simp only [List.length_cons, List.length_nil] at this ⊢
              omega
            · rw [if_neg p2] at h ⊢
              by_cases p3 : [123].isPrefixOf r = true
              · rw [if_pos p3] at h ⊢
                have := List.IsPrefix.length_le (List.isPrefixOf_iff_prefix.1 p3)
                have h2 := intT_len h
                simp only [List.length_cons, List.length_nil, List.length_drop] at this h2 ⊢
                omega
              · rw [if_neg p3] at h ⊢
                exact escT_len h
        · rw [if_neg h92] at h ⊢
          split
          · simp only; omega
          · split
            · simp only; omega
            · split <;> (simp only; omega)
theorem intT_pos {m : Nat} {close r : List UInt8} (hm : 1 ≤ m) (h : (intT m close r).1.kind ≠ 0) : 1 ≤ (intT m close r).2 := by
  unfold intT at h ⊢
  dsimp only at h ⊢
  by_cases h1 : (Lib.cut r close).2.2 = false ∨ (numP (Lib.cut (Lib.cut r close).1 [44]).1).2 = false
  · rw [if_pos h1] at h; exact absurd rfl h
  · rw [if_neg h1] at h ⊢
    split
    · simp only; omega
    · rename_i h2
      rw [if_neg h2] at h
      split
      · simp only; omega
      · rename_i h3
        rw [if_neg h3] at h
        split
        · rename_i h4
          rw [if_pos h4] at h
          exact absurd rfl h
        · simp only; omega
theorem escT_pos {them r : List UInt8} (h : (escT them r).1.kind ≠ 0) : 1 ≤ (escT them r).2 := by
  cases r with
  | nil => exact absurd rfl h
  | cons d q =>
    unfold escT at h ⊢
    dsimp only at h ⊢
    split
    · simp only; omega
    · rename_i h1
      rw [if_neg h1] at h
      split
      · rename_i h2
        rw [if_pos h2] at h
        exact absurd rfl h
      · simp only; omega
theorem brkT_pos {bk : BkF} {r : List UInt8} (h : (brkT bk r).1.kind ≠ 0) : 1 ≤ (brkT bk r).2 := by
  unfold brkT at h ⊢
  cases hb : bk r with
  | none => rw [hb] at h; exact absurd rfl h
  | some x =>
    obtain ⟨S, n⟩ := x
    simp only
    omega
theorem firstT_pos {bk : BkF} (ext : Bool) (ah : Int) (c : UInt8) (r : List UInt8) (h : (firstT bk ext ah (c :: r)).1.kind ≠ 0) : 1 ≤ (firstT bk ext ah (c :: r)).2 := by
  cases ext with
  | true =>
    unfold firstT extT at h ⊢
    rw [if_pos rfl] at h ⊢
    dsimp only at h ⊢
    by_cases h46 : c = 46
    · rw [if_pos h46]; simp only; omega
    · rw [if_neg h46] at h ⊢
      by_cases h91 : c = 91
      · rw [if_pos h91] at h ⊢; exact brkT_pos h
      · rw [if_neg h91] at h ⊢
        by_cases h92 : c = 92
        · rw [if_pos h92] at h ⊢; exact escT_pos h
        · rw [if_neg h92] at h ⊢
          by_cases h94 : c = 94
          · rw [if_pos h94]; simp only; omega
          · rw [if_neg h94] at h ⊢
            by_cases h36 : c = 36
            · rw [if_pos h36]; simp only; omega
            · rw [if_neg h36] at h ⊢
              by_cases h40 : c = 40
              · rw [if_pos h40]; simp only; omega
              · rw [if_neg h40] at h ⊢
                by_cases h41 : c = 41
                · rw [if_pos h41]; simp only; omega
                · rw [if_neg h41] at h ⊢
                  by_cases h124 : c = 124
                  · rw [if_pos h124]; simp only; omega
                  · rw [if_neg h124] at h ⊢
                    by_cases h42 : c = 42
                    · rw [if_pos h42]; simp only; omega
                    · rw [if_neg h42] at h ⊢
                      by_cases h43 : c = 43
                      · rw [if_pos h43]; simp only; omega
                      · rw [if_neg h43] at h ⊢
                        by_cases h63 : c = 63
                        · rw [if_pos h63]; simp only; omega
                        · rw [if_neg h63] at h ⊢
                          by_cases h123 : c = 123
                          · rw [if_pos h123] at h ⊢; exact intT_pos (by omega) h
                          · rw [if_neg h123] at h ⊢
                            simp only; omega
  | false =>
    unfold firstT basT at h ⊢
    rw [if_neg (fun h => by cases h)] at h ⊢
    dsimp only at h ⊢
    by_cases h46 : c = 46
    · rw [if_pos h46]; simp only; omega
    · rw [if_neg h46] at h ⊢
      by_cases h91 : c = 91
      · rw [if_pos h91] at h ⊢; exact brkT_pos h
      · rw [if_neg h91] at h ⊢
        by_cases h92 : c = 92
        · rw [if_pos h92] at h ⊢
          unfold basEsc at h ⊢
          by_cases p1 : [40].isPrefixOf r = true
          · rw [if_pos p1]
            simp only
            omega
          · rw [if_neg p1] at h ⊢
            by_cases p2 : [41].isPrefixOf r = true
            · rw [if_pos p2]
              simp only
              omega
            · rw [if_neg p2] at h ⊢
              by_cases p3 : [123].isPrefixOf r = true
              · rw [if_pos p3] at h ⊢
                exact intT_pos (by omega) h
              · rw [if_neg p3] at h ⊢
                exact escT_pos h
        · rw [if_neg h92] at h ⊢
          split
          · simp only; omega
          · split
            · simp only; omega
            · split <;> (simp only; omega)
open Go.RowKit Go.Deep
def ToksP (o : Option (List Tok)) (w : World) (e : Ending) (w' : World) : Prop := match o with
  | none => e = .returned (.tuple #[.slice none 0 0, .bool false]) ∧ Below w.heap.size w w'
  | some ts => ∃ A c, e = .returned (.tuple #[.slice A ts.length c, .bool true]) ∧ ts.length ≤ c ∧ RawAt w' A (tsV ts) ∧ Below w.heap.size w w'
def strLen : Value → Nat
  | .string s => s.size
  | _ => 0
theorem toks_step {bk : BkF} {ext : Bool} {k : Nat} {ah : Int} {c : UInt8} {r : List UInt8} {T : Tok} {n : Nat} (hT : (T, n) = firstT bk ext ah (c :: r)) : toksF bk ext (k + 1) ah (c :: r) = if T.kind = 0 then none else (toksF bk ext k T.kind ((c :: r).drop n)).map (T :: ·) := by
  simp only [toksF]
  rw [← hT]
theorem toks_none {bk : BkF} {ext : Bool} {k : Nat} {ah : Int} {l : List UInt8} {acc : List Tok} {o : Option (List Tok)} (h : o = (toksF bk ext k ah l).map (acc ++ ·)) (h0 : toksF bk ext k ah l = none) : o = none := by rw [h, h0]; rfl
theorem toks_push {bk : BkF} {ext : Bool} {k : Nat} {ah : Int} {l l2 : List UInt8} {acc : List Tok} {T : Tok} {o : Option (List Tok)} (h : o = (toksF bk ext (k + 1) ah l).map (acc ++ ·)) (h0 : toksF bk ext (k + 1) ah l = (toksF bk ext k T.kind l2).map (T :: ·)) : o = (toksF bk ext k T.kind l2).map ((acc ++ [T]) ++ ·) := by
  rw [h, h0, Option.map_map]
  congr 1
  funext x
  simp
theorem box7_at {w : World} {b : Nat} {v0 v1 v2 v3 v4 v5 v6 : Value} {t : TypeId} {fr : Nat × Nat} (h : w.heap[b]? = some (.cells #[v0, v1, v2, v3, v4, v5, v6] t fr)) : w.cell? ⟨b, 0, none⟩ = some v0 ∧ w.cell? ⟨b, 1, none⟩ = some v1 ∧ w.cell? ⟨b, 2, none⟩ = some v2 ∧ w.cell? ⟨b, 3, none⟩ = some v3 ∧ w.cell? ⟨b, 4, none⟩ = some v4 ∧ w.cell? ⟨b, 5, none⟩ = some v5 ∧ w.cell? ⟨b, 6, none⟩ = some v6 :=
  ⟨obj_cell h 0, obj_cell h 1, obj_cell h 2, obj_cell h 3, obj_cell h 4, obj_cell h 5, obj_cell h 6⟩
set_option maxRecDepth 100000 in
set_option maxHeartbeats 8000000 in
theorem tokens_is {bk : BkF} (hbk : BkIs bk) (s : ByteArray) (ext : Bool) (K : Nat) (hz : s.size ≤ K) (hK : K ≤ 4096) (w : World) (hM : MaxAt w) : Calls Try.prog 62 #[.string s, .bool ext] w (ToksP (toksF bk ext K 4 s.data.toList) w) := by
  obtain ⟨o, eo⟩ : ∃ o, o = toksF bk ext K 4 s.data.toList := ⟨_, rfl⟩
  rw [← eo]
  have HO := Lib.hid (show o = (toksF bk ext K 4 s.data.toList).map ([] ++ ·) by rw [eo]; cases toksF bk ext K 4 s.data.toList <;> rfl)
  have HZ := Lib.hid (And.intro hz hK)
  have HBK := Lib.hid hbk
  have HM := Lib.hid hM
  clear eo hz hK hbk hM
  go_enter Try.func62, Try.ntmps62
  go_wp2_with fail
  refine wp_scope_again 0 (fun a' w' => ∃ (rest : ByteArray) (acc : List Tok) (ah : Int) (v : Value) (k : Nat) (u8 u9 u10 u11 u12 u13 u14 u15 u16 u17 u18 u19 u20 u21 u22 u23 u24 u25 u26 u27 u28 u29 u30 u31 : Value), Hid (o = (toksF bk ext k ah rest.data.toList).map (acc ++ ·) ∧ rest.size ≤ k ∧ acc.length + k ≤ K ∧ w'.ownsRow w.heap.size 111 7 v acc.length (tsV acc) ∧ Below w.heap.size w w') ∧ a' = { tmps := #[.string rest, .bool ext, undef, undef, .slice none 0 0, .bool false, v, .int .i64 ah, u8, u9, u10, u11, u12, u13, u14, u15, u16, u17, u18, u19, u20, u21, u22, u23, u24, u25, u26, u27, u28, u29, u30, u31], defers := [] }) (fun a' _ => strLen (a'.tmps.getD 0 undef)) rfl ?_ ?_
  · intro hp
    have HP := Lib.hid hp
    clear hp
    go_wp2_with fail
    go_step3
    simp only [Exit.then]
    rename_i hKK
    exact hKK _ _ (HP.out _ _ ⟨s, [], 4, _, K, _, _, _, _, _, _, _, _, _, _, _, _, _, _, _, _, _, _, _, _, _, _, _, _, Lib.hid ⟨HO.out, HZ.out.1, by simp, World.ownsRow_nil _ _ _ _, Below.refl _ _⟩, rfl⟩)
  · rintro a' wr ⟨rest, acc, ah, v, k, u8, u9, u10, u11, u12, u13, u14, u15, u16, u17, u18, u19, u20, u21, u22, u23, u24, u25, u26, u27, u28, u29, u30, u31, HI, rfl⟩
    match hl : rest.data.toList with
    | [] =>
      have hem : rest.toList.isEmpty = true := by rw [isEmpty_of, hl]; rfl
      have HE := Lib.hid (show o = some acc by rw [HI.out.1, hl]; cases k <;> simp [toksF])
      obtain ⟨A, c, rfl, hnc, hra, _⟩ := own_form HI.out.2.2.2.1
      have HR := Lib.hid (And.intro hnc hra)
      clear hl hnc hra
      go_wp2_with fail
      simp only [Exit.jump]
      go_ret2
      rw [HE.out]
      exact ⟨A, c, rfl, HR.out.1, HR.out.2, HI.out.2.2.2.2⟩
    | c :: r =>
      have hem : rest.toList.isEmpty = false := by rw [isEmpty_of, hl]; rfl
      have hsz := size_cons hl
      obtain ⟨k', rfl⟩ : ∃ k', k = k' + 1 := ⟨k - 1, by have := HI.out.2.1; omega⟩
      have h9 := first_token HBK.out rest ext ah hl (by have := HI.out.2.1; have := HI.out.2.2.1; have := HZ.out; omega) wr (HM.out.below HI.out.2.2.2.2)
      have hpos := firstT_pos (bk := bk) ext ah c r
      have hlen := firstT_len HBK.out ext ah c r (by have := HI.out.2.1; have := HI.out.2.2.1; have := HZ.out; omega)
      obtain ⟨⟨T, n⟩, hT⟩ : ∃ T, T = firstT bk ext ah (c :: r) := ⟨_, rfl⟩
      rw [← hT] at h9 hlen hpos
      have hst := toks_step (k := k') hT
      unfold TokAns Tok.v at h9
      have H9 := Lib.hid h9
      by_cases hk0 : T.kind = 0
      · have gk : (T.kind == 0) = true := by rw [beq_iff_eq]; exact hk0
        have HE := Lib.hid (show o = none from toks_none HI.out.1 (by rw [hl, hst, if_pos hk0]))
        clear hl hsz h9 hlen hpos hT hst hk0
        go_wp2_with fail
        go_at_call 68
        refine H9.out.mono ?_
        rintro e w1 ⟨rfl, hb1⟩
        have HB := Lib.hid (HI.out.2.2.2.2.trans (hb1.mono HI.out.2.2.2.2.size))
        clear hb1
        go_wp2_with fail
        simp only [Exit.jump]
        go_ret2
        rw [HE.out]
        exact ⟨rfl, HB.out.alloc HB.out.size _⟩
      · have gk : (T.kind == 0) = false := by rw [beq_eq_false_iff_ne]; exact hk0
        have hn : n ≤ rest.size := by have := hlen hk0; simp only [List.length_cons] at this; omega
        have hni : (n : Int) ≤ (rest.size : Int) := by omega
        have HO2 := Lib.hid (toks_push (T := T) HI.out.1 (by rw [hl, hst, if_neg hk0]))
        have hdr : (rest.extract n rest.size).data.toList = (c :: r).drop n := by rw [drop_of, hl]
        have hn1 : rest.size - n ≤ k' ∧ 1 ≤ n := by have := HI.out.2.1; have := hpos hk0; omega
        have HDR := Lib.hid (And.intro hdr hn1)
        have HMEAS := Lib.hid (show (rest.extract n rest.size).size < rest.size by simp; omega)
        clear hl hsz h9 hlen hpos hT hst hk0 hdr hn1
        go_wp2_with fail
        go_at_call 68
        refine H9.out.mono ?_
        rintro e w1 ⟨rfl, hb1⟩
        have hbw := HI.out.2.2.2.2.trans (hb1.mono HI.out.2.2.2.2.size)
        have HB1 := Lib.hid hb1
        have HBW := Lib.hid hbw
        clear hb1 hbw
        go_upto_region 8 with fail
        obtain ⟨W2, eW2⟩ : ∃ W2, W2 = w1.alloc (.cells #[.int .i64 T.kind, .int .u64 (T.set 0), .int .u64 (T.set 1), .int .u64 (T.set 2), .int .u64 (T.set 3), .int .i64 T.lo, .int .i64 T.hi] 111) := ⟨_, rfl⟩
        rw [← eW2]
        obtain ⟨bx, ebx⟩ : ∃ bx, bx = w1.heap.size := ⟨_, rfl⟩
        rw [← ebx]
        have hbx2 : W2.heap[bx]? = some (.cells #[.int .i64 T.kind, .int .u64 (T.set 0), .int .u64 (T.set 1), .int .u64 (T.set 2), .int .u64 (T.set 3), .int .i64 T.lo, .int .i64 T.hi] 111) := by rw [eW2, ebx]; exact heap_alloc_new w1 _
        have hb12 : Below w1.heap.size w1 W2 := by rw [eW2]; exact bA w1 _
        have hown2 : W2.ownsRow w.heap.size 111 7 v acc.length (tsV acc) := ownsRow_turned (ownsRow_turned HI.out.2.2.2.1 (Turned.of_below (S := fun _ => False) HB1.out) (fun _ _ h => h)) (Turned.of_below (S := fun _ => False) hb12) (fun _ _ h => h)
        have hbw2 : Below w.heap.size w W2 := HBW.out.trans (hb12.mono HBW.out.size)
        have hbd : Below W2.heap.size W2 W2.drew := (Below.refl _ W2).drew
        have hb2a : Below W2.heap.size W2 (W2.alloc (.cells #[.int .i64 T.kind, .int .u64 (T.set 0), .int .u64 (T.set 1), .int .u64 (T.set 2), .int .u64 (T.set 3), .int .i64 T.lo, .int .i64 T.hi] 111)).drew := ((Below.refl _ W2).alloc (Nat.le_refl _) _).drew
        have howna := ownsRow_turned hown2 (Turned.of_below (S := fun _ => False) hb2a) (fun _ _ h => h)
        have hnew : (W2.alloc (.cells #[.int .i64 T.kind, .int .u64 (T.set 0), .int .u64 (T.set 1), .int .u64 (T.set 2), .int .u64 (T.set 3), .int .i64 T.lo, .int .i64 T.hi] 111)).drew.heap[W2.heap.size]? = some (.cells T.cells.toArray 111) := heap_alloc_new W2 _
        obtain ⟨v', w11, hap, hown', hgrow, hfr⟩ := run_append_raw elem_tok howna (some ⟨W2.heap.size, 0, none⟩) 1 1 T.cells (.inr ⟨W2.heap.size, 0, rfl, fun j u hu => by
          rw [Nat.zero_add, obj_cell hnew j]
          simpa using hu⟩) rfl (by intro u hu; exact oneCell_tsV (xs := [T]) u (by simpa [tsV] using hu)) (by have := HI.out.2.2.1; have := HZ.out; omega) (by have := hbw2.size; have := hb2a.size; omega)
        have hbxlt : bx < W2.heap.size := (Array.getElem?_eq_some_iff.1 hbx2).1
        have hbxd := (hbd.block bx hbxlt).trans hbx2
        have hbxa := (hb2a.block bx hbxlt).trans hbx2
        have hnr : some bx ≠ v.ownBlock := by
          intro e
          have h1 := World.ownsRow.lt HI.out.2.2.2.1 bx e.symm
          have h2 := HB1.out.size
          omega
        have hbx11 := (hgrow.block bx (Array.getElem?_eq_some_iff.1 hbxa).1 hnr).trans hbxa
        obtain ⟨kd0, kd1, kd2, kd3, kd4, kd5, kd6⟩ := box7_at hbxd
        obtain ⟨ka0, _, _, _, _, _, _⟩ := box7_at hbxa
        obtain ⟨kw0, _, _, _, _, _, _⟩ := box7_at hbx11
        have hb11 : Below w.heap.size w w11 := (hbw2.trans (hb2a.mono hbw2.size)).grown hgrow (by have := hbw2.size; have := hb2a.size; omega) (fun j e => (World.ownsRow.lt HI.out.2.2.2.1 j e).1)
        have HFIN := Lib.hid (And.intro hown' hb11)
        have HNW := Lib.hid hnew
        clear hbx2 hb12 hown2 hbw2 hbd hb2a howna hnew hown' hgrow hfr hbxlt hbxd hbxa hnr hbx11 hb11 eW2 ebx gk
        refine wp_region_any (by kernel_rfl) ?_
        try (change wpAny _ _ _ _ _ _ _ (World.drew _))
        refine wpAny_take (i := 0) (v := ?v1) rfl (by kernel_rfl) (by kernel_rfl) (by kernel_rfl) (fun _ _ _ h => h) (Or.inl ⟨by rfl, ?hy1⟩) ?rest1
        case hy1 =>
          intro w
          go_simp
          try with_reducible rfl
        refine wpAny_take (i := 4) (v := ?v2) rfl (by kernel_rfl) (by kernel_rfl) (by kernel_rfl) (fun _ _ _ h => h) (Or.inl ⟨by rfl, ?hy2⟩) ?rest2
        case hy2 =>
          intro w
          go_simp
          try with_reducible rfl
        refine wpAny_take (i := 6) (v := ?v3) rfl (by kernel_rfl) (by kernel_rfl) (by kernel_rfl) (fun _ _ _ h => h) (Or.inl ⟨by rfl, ?hy3⟩) ?rest3
        case hy3 =>
          intro w
          go_simp
          try with_reducible rfl
        refine wpAny_take (i := 7) (v := ?v4) rfl (by kernel_rfl) (by kernel_rfl) (by kernel_rfl) (fun _ _ _ h => h) (Or.inl ⟨by rfl, ?hy4⟩) ?rest4
        case hy4 =>
          intro w
          go_simp
          try with_reducible rfl
        refine wpAny_take (i := 8) (v := ?v5) rfl (by kernel_rfl) (by kernel_rfl) (by kernel_rfl) (fun _ _ _ h => h) (Or.inl ⟨by rfl, ?hy5⟩) ?rest5
        case hy5 =>
          intro w
          go_simp
          try with_reducible rfl
        refine wpAny_ready (rs := [1, 5]) (by kernel_rfl) (by simp) ?_
        refine AllReady.cons rfl (fun K hK => ?_) (AllReady.cons rfl (fun K hK => ?_) AllReady.nil)
        · go_simp
          refine hK _ _ ?_
          clear hK K
          refine wpAny_ready (rs := [2, 5]) (by kernel_rfl) (by simp) ?_
          refine AllReady.cons rfl (fun K hK => ?_) (AllReady.cons rfl (fun K hK => ?_) AllReady.nil)
          · go_simp
            refine hK _ _ ?_
            clear hK K
            refine wpAny_ready (rs := [3, 5]) (by kernel_rfl) (by simp) ?_
            refine AllReady.cons rfl (fun K hK => ?_) (AllReady.cons rfl (fun K hK => ?_) AllReady.nil)
            · rw [if_pos (by rfl)]
              unfold Oper.wp
              simp [execOp, resolve, invoke, builtin, Act.eval, hap, Result.andThen]
              refine hK _ _ ?_
              clear hK K
              refine wpAny_take (i := 9) (v := ?v6) rfl (by kernel_rfl) (by kernel_rfl) (by kernel_rfl) (fun _ _ _ h => h) (Or.inl ⟨by rfl, ?hy6⟩) ?rest6
              case hy6 =>
                intro w
                go_simp
                try with_reducible rfl
              refine wpAny_ready (rs := [5]) (by kernel_rfl) (by simp) ?_
              refine AllReady.cons rfl (fun K hK => ?_) AllReady.nil
              · go_simp
                refine hK _ _ ?_
                clear hK K
                refine wpAny_take (i := 10) (v := ?v7) rfl (by kernel_rfl) (by kernel_rfl) (by kernel_rfl) (fun _ _ _ h => h) (Or.inl ⟨by rfl, ?hy7⟩) ?rest7
                case hy7 =>
                  intro w
                  go_simp
                  try with_reducible rfl
                refine wpAny_take (i := 11) (v := ?v8) rfl (by kernel_rfl) (by kernel_rfl) (by kernel_rfl) (fun _ _ _ h => h) (Or.inl ⟨by rfl, ?hy8⟩) ?rest8
                case hy8 =>
                  intro w
                  go_simp
                  try with_reducible rfl
                refine wpAny_done (by kernel_rfl) ?_ _
                go_wp2_with fail
                go_step3
                exact ⟨rfl, ⟨rest.extract n rest.size, acc ++ [T], T.kind, v', k', _, _, _, _, _, _, _, _, _, _, _, _, _, _, _, _, _, _, _, _, _, _, _, _, Lib.hid ⟨by rw [HDR.out.1]; exact HO2.out, by simp; have := HDR.out.2.1; omega, by have := HI.out.2.2.1; simp; omega, by rw [List.length_append, tsV_append]; simpa [tsV] using HFIN.out.1, HFIN.out.2⟩, rfl⟩, HMEAS.out⟩
            · go_simp
              refine hK _ _ ?_
              clear hK K
              refine wpAny_ready (rs := [3]) (by kernel_rfl) (by simp) ?_
              refine AllReady.cons rfl (fun K hK => ?_) AllReady.nil
              · rw [if_pos (by rfl)]
                unfold Oper.wp
                simp [execOp, resolve, invoke, builtin, Act.eval, hap, Result.andThen]
                refine hK _ _ ?_
                clear hK K
                refine wpAny_take (i := 9) (v := ?v9) rfl (by kernel_rfl) (by kernel_rfl) (by kernel_rfl) (fun _ _ _ h => h) (Or.inl ⟨by rfl, ?hy9⟩) ?rest9
                case hy9 =>
                  intro w
                  go_simp
                  try with_reducible rfl
                refine wpAny_take (i := 10) (v := ?v10) rfl (by kernel_rfl) (by kernel_rfl) (by kernel_rfl) (fun _ _ _ h => h) (Or.inl ⟨by rfl, ?hy10⟩) ?rest10
                case hy10 =>
                  intro w
                  go_simp
                  try with_reducible rfl
                refine wpAny_take (i := 11) (v := ?v11) rfl (by kernel_rfl) (by kernel_rfl) (by kernel_rfl) (fun _ _ _ h => h) (Or.inl ⟨by rfl, ?hy11⟩) ?rest11
                case hy11 =>
                  intro w
                  go_simp
                  try with_reducible rfl
                refine wpAny_done (by kernel_rfl) ?_ _
                go_wp2_with fail
                go_step3
                exact ⟨rfl, ⟨rest.extract n rest.size, acc ++ [T], T.kind, v', k', _, _, _, _, _, _, _, _, _, _, _, _, _, _, _, _, _, _, _, _, _, _, _, _, Lib.hid ⟨by rw [HDR.out.1]; exact HO2.out, by simp; have := HDR.out.2.1; omega, by have := HI.out.2.2.1; simp; omega, by rw [List.length_append, tsV_append]; simpa [tsV] using HFIN.out.1, HFIN.out.2⟩, rfl⟩, HMEAS.out⟩
          · go_simp
            refine hK _ _ ?_
            clear hK K
            refine wpAny_ready (rs := [2]) (by kernel_rfl) (by simp) ?_
            refine AllReady.cons rfl (fun K hK => ?_) AllReady.nil
            · go_simp
              refine hK _ _ ?_
              clear hK K
              refine wpAny_ready (rs := [3]) (by kernel_rfl) (by simp) ?_
              refine AllReady.cons rfl (fun K hK => ?_) AllReady.nil
              · rw [if_pos (by rfl)]
                unfold Oper.wp
                simp [execOp, resolve, invoke, builtin, Act.eval, hap, Result.andThen]
                refine hK _ _ ?_
                clear hK K
                refine wpAny_take (i := 9) (v := ?v12) rfl (by kernel_rfl) (by kernel_rfl) (by kernel_rfl) (fun _ _ _ h => h) (Or.inl ⟨by rfl, ?hy12⟩) ?rest12
                case hy12 =>
                  intro w
                  go_simp
                  try with_reducible rfl
                refine wpAny_take (i := 10) (v := ?v13) rfl (by kernel_rfl) (by kernel_rfl) (by kernel_rfl) (fun _ _ _ h => h) (Or.inl ⟨by rfl, ?hy13⟩) ?rest13
                case hy13 =>
                  intro w
                  go_simp
                  try with_reducible rfl
                refine wpAny_take (i := 11) (v := ?v14) rfl (by kernel_rfl) (by kernel_rfl) (by kernel_rfl) (fun _ _ _ h => h) (Or.inl ⟨by rfl, ?hy14⟩) ?rest14
                case hy14 =>
                  intro w
                  go_simp
                  try with_reducible rfl
                refine wpAny_done (by kernel_rfl) ?_ _
                go_wp2_with fail
                go_step3
                exact ⟨rfl, ⟨rest.extract n rest.size, acc ++ [T], T.kind, v', k', _, _, _, _, _, _, _, _, _, _, _, _, _, _, _, _, _, _, _, _, _, _, _, _, Lib.hid ⟨by rw [HDR.out.1]; exact HO2.out, by simp; have := HDR.out.2.1; omega, by have := HI.out.2.2.1; simp; omega, by rw [List.length_append, tsV_append]; simpa [tsV] using HFIN.out.1, HFIN.out.2⟩, rfl⟩, HMEAS.out⟩
        · go_simp
          refine hK _ _ ?_
          clear hK K
          refine wpAny_ready (rs := [1]) (by kernel_rfl) (by simp) ?_
          refine AllReady.cons rfl (fun K hK => ?_) AllReady.nil
          · go_simp
            refine hK _ _ ?_
            clear hK K
            refine wpAny_ready (rs := [2]) (by kernel_rfl) (by simp) ?_
            refine AllReady.cons rfl (fun K hK => ?_) AllReady.nil
            · go_simp
              refine hK _ _ ?_
              clear hK K
              refine wpAny_ready (rs := [3]) (by kernel_rfl) (by simp) ?_
              refine AllReady.cons rfl (fun K hK => ?_) AllReady.nil
              · rw [if_pos (by rfl)]
                unfold Oper.wp
                simp [execOp, resolve, invoke, builtin, Act.eval, hap, Result.andThen]
                refine hK _ _ ?_
                clear hK K
                refine wpAny_take (i := 9) (v := ?v15) rfl (by kernel_rfl) (by kernel_rfl) (by kernel_rfl) (fun _ _ _ h => h) (Or.inl ⟨by rfl, ?hy15⟩) ?rest15
                case hy15 =>
                  intro w
                  go_simp
                  try with_reducible rfl
                refine wpAny_take (i := 10) (v := ?v16) rfl (by kernel_rfl) (by kernel_rfl) (by kernel_rfl) (fun _ _ _ h => h) (Or.inl ⟨by rfl, ?hy16⟩) ?rest16
                case hy16 =>
                  intro w
                  go_simp
                  try with_reducible rfl
                refine wpAny_take (i := 11) (v := ?v17) rfl (by kernel_rfl) (by kernel_rfl) (by kernel_rfl) (fun _ _ _ h => h) (Or.inl ⟨by rfl, ?hy17⟩) ?rest17
                case hy17 =>
                  intro w
                  go_simp
                  try with_reducible rfl
                refine wpAny_done (by kernel_rfl) ?_ _
                go_wp2_with fail
                go_step3
                exact ⟨rfl, ⟨rest.extract n rest.size, acc ++ [T], T.kind, v', k', _, _, _, _, _, _, _, _, _, _, _, _, _, _, _, _, _, _, _, _, _, _, _, _, Lib.hid ⟨by rw [HDR.out.1]; exact HO2.out, by simp; have := HDR.out.2.1; omega, by have := HI.out.2.2.1; simp; omega, by rw [List.length_append, tsV_append]; simpa [tsV] using HFIN.out.1, HFIN.out.2⟩, rfl⟩, HMEAS.out⟩
open Go.RowKit Go.Deep
theorem Turned.put {S : Nat → Prop} {a b : World} (h : Turned S a b) {k : Nat} (hk : S k) (i : Nat) (v : Value) : Turned S a (b.setCell ⟨k, i, none⟩ v) := by
  refine ⟨?_, ?_, ?_, ?_, fun j hj hn => ?_⟩
  · have := h.os; simpa [World.setCell] using this
  · have := h.tape; simpa [World.setCell] using this
  · have := h.output; simpa [World.setCell] using this
  · have := h.size; simpa [World.setCell] using this
  · rw [← h.block j hj hn]
    have hne : k ≠ j := fun e => hn (e ▸ hk)
    simp only [World.setCell]
    rw [Array.getElem?_modify, if_neg hne]
theorem Turned.wider {S T : Nat → Prop} {a b : World} (h : Turned S a b) (hT : ∀ k, k < a.heap.size → S k → T k) : Turned T a b :=
  ⟨h.os, h.tape, h.output, h.size, fun k hk hn => h.block k hk fun hs => hn (hT k hk hs)⟩
theorem Turned.frozen {S : Nat → Prop} {a b : World} (h : Turned S a b) {p : Addr} (hp : p.block < a.heap.size) (hn : ¬ S p.block) : b.frozen? p = a.frozen? p := by
  simp only [World.frozen?, h.block p.block hp hn]
theorem Turned.then_below {S : Nat → Prop} {a b c : World} (h : Turned S a b) (k : Below a.heap.size b c) : Turned S a c :=
  ⟨k.os.trans h.os, k.tape.trans h.tape, k.output.trans h.output, Nat.le_trans h.size k.size, fun i hi hn => (k.block i hi).trans (h.block i hi hn)⟩
def ParsAt (w : World) (pb : Nat) (ts : List Tok) (g : Nat) : Prop := ∃ A c,
  (w.cell? ⟨pb, 0, none⟩ = some (.slice A ts.length c) ∧ w.cell? ⟨pb, 1, none⟩ = some (.int .i64 (g : Int))) ∧ (w.frozen? ⟨pb, 0, none⟩ = false ∧ w.frozen? ⟨pb, 1, none⟩ = false) ∧ ts.length ≤ c ∧ RawOff (pb ≤ ·) w A (tsV ts)
theorem ParsAt.lt {w : World} {pb : Nat} {ts : List Tok} {g : Nat} (h : ParsAt w pb ts g) : pb < w.heap.size := by
  obtain ⟨A, c, ⟨h0, _⟩, _⟩ := h
  exact World.block_lt_of_cell? w ⟨pb, 0, none⟩ h0
theorem ParsAt.below {w w' : World} {pb : Nat} {ts : List Tok} {g : Nat} (h : ParsAt w pb ts g) (hb : Below w.heap.size w w') : ParsAt w' pb ts g := by
  have hl := h.lt
  obtain ⟨A, c, ⟨h0, h1⟩, ⟨f0, f1⟩, hc, hr⟩ := h
  refine ⟨A, c, ⟨?_, ?_⟩, ⟨?_, ?_⟩, hc, hr.turned (Turned.of_below hb)⟩
  all_goals first | (rw [hb.cell hl]; assumption) | (rw [hb.frozen hl]; assumption)
theorem ParsAt.turned {T : Nat → Prop} {w w' : World} {pb : Nat} {ts : List Tok} {g : Nat} (h : ParsAt w pb ts g) (ht : Turned T w w') (hT : ∀ k, T k → pb < k) : ParsAt w' pb ts g := by
  have hl := h.lt
  have hn : ¬ T pb := fun h => Nat.lt_irrefl _ (hT pb h)
  obtain ⟨A, c, ⟨h0, h1⟩, ⟨f0, f1⟩, hc, hr⟩ := h
  exact ⟨A, c, ⟨ht.cell h0 hn, ht.cell h1 hn⟩, ⟨by rw [ht.frozen hl hn]; exact f0, by rw [ht.frozen hl hn]; exact f1⟩, hc, hr.turned (ht.wider fun k _ h => Nat.le_of_lt (hT k h))⟩
set_option maxRecDepth 100000 in
theorem next_is {pb : Nat} {ts : List Tok} {g : Nat} {w : World} (h : ParsAt w pb ts g) : Calls Try.prog 64 #[.pointer (some ⟨pb, 0, none⟩)] w fun e w' => e = .returned (.int .i64 (headK ts)) ∧ w' = w := by
  obtain ⟨A, c, ⟨h0, h1⟩, ⟨f0, f1⟩, hc, hr⟩ := h
  match ts with
  | [] =>
    simp only [List.length_nil] at h0
    clear hr
    go_enter Try.func64, Try.ntmps64
    go_wp2_with fail
    exact bodyPost_ret (v := .int .i64 0) (by simp [results, Try.results64, go_sem]) rfl ⟨rfl, rfl⟩
  | t :: r =>
    obtain ⟨b, o, rfl, hk⟩ := hr.cell (i := 0) (v := .int .i64 t.kind) rfl
    have g0 : (((t :: r).length : Int) == 0) = false := by rw [beq_eq_false_iff_ne]; simp only [List.length_cons]; omega
    obtain ⟨n, hn⟩ : ∃ n, n = (t :: r).length := ⟨_, rfl⟩
    have hn0 : (0 : Int) < (n : Int) := by rw [hn]; simp only [List.length_cons]; omega
    rw [← hn] at h0 g0
    rw [Nat.add_zero] at hk
    clear hr hn hc
    go_enter Try.func64, Try.ntmps64
    go_wp2_with fail
    exact bodyPost_ret (v := .int .i64 t.kind) (by simp [results, Try.results64, go_sem]) rfl ⟨rfl, rfl⟩
theorem sliced_one {S : Nat → Prop} {w : World} {A : Option Addr} {t : Tok} {r : List Tok} {n c : Nat} (h : RawOff S w A (tsV (t :: r))) (hn : n = r.length + 1) (hc : n ≤ c) :
    ∃ B, sliced A 1 n c 7 = .slice B r.length (c - 1) ∧ RawOff S w B (tsV r) ∧ r.length ≤ c - 1 := by
  subst hn
  by_cases he : c = 1
  · have hr : r = [] := List.eq_nil_of_length_eq_zero (by omega)
    subst hr
    exact ⟨A, by unfold sliced; rw [if_pos he]; rfl, .inl rfl, Nat.zero_le _⟩
  · refine ⟨A.map (·.add 7), by unfold sliced; rw [if_neg he]; rfl, ?_, by omega⟩
    have := h.drop 7
    exact this
def headT : List Tok → Tok
  | [] => Tok.none
  | t :: _ => t
def TakeAns (w : World) (pb : Nat) (ts : List Tok) (g : Nat) (e : Ending) (w' : World) : Prop := e = .returned (headT ts).v ∧ ParsAt w' pb (ts.drop 1) g ∧ Turned (· = pb) w w'
set_option maxRecDepth 100000 in
theorem take_is {pb : Nat} {ts : List Tok} {g : Nat} {w : World} (h : ParsAt w pb ts g) : Calls Try.prog 70 #[.pointer (some ⟨pb, 0, none⟩)] w (TakeAns w pb ts g) := by
  have hl := h.lt
  have HP := Lib.hid h
  obtain ⟨A, c, ⟨h0, h1⟩, ⟨f0, f1⟩, hc, hr⟩ := h
  unfold TakeAns Tok.v
  match ts with
  | [] =>
    simp only [List.length_nil] at h0
    clear hr
    go_enter Try.func70, Try.ntmps70
    go_wp2_with fail
    refine bodyPost_ret (v := Tok.none.v) (by simp [results, Try.results70, go_sem, Tok.none, Tok.v, noS]) rfl ⟨rfl, ?_, ?_⟩
    · exact HP.out.below (bA w _)
    · exact Turned.of_below (bA w _)
  | t :: r =>
    obtain ⟨n, hn⟩ : ∃ n, n = (t :: r).length := ⟨_, rfl⟩
    have hn1 : n = r.length + 1 := hn
    obtain ⟨B, eB, hB, hBc⟩ := sliced_one hr hn1 (by rw [hn]; exact hc)
    have hoff := hr
    obtain ⟨b, o, rfl, hbn, hk⟩ : ∃ b o, A = some ⟨b, o, none⟩ ∧ b ≠ pb ∧ w.rangeAt b o (tsV (t :: r)) := by
      rcases hr with hr | ⟨b, o, e, hn, hr⟩
      · cases hr
      · exact ⟨b, o, e, fun h => hn (by rw [h]; exact Nat.le_refl _), hr⟩
    have m0 := hk 0 _ rfl
    have m1 := hk 1 _ rfl
    have m2 := hk 2 _ rfl
    have m3 := hk 3 _ rfl
    have m4 := hk 4 _ rfl
    have m5 := hk 5 _ rfl
    have m6 := hk 6 _ rfl
    have hbl : b < w.heap.size := World.block_lt_of_cell? w _ m0
    rw [Nat.add_zero] at m0
    have g0 : ((n : Int) == 0) = false := by rw [beq_eq_false_iff_ne]; omega
    have hn0 : (0 : Int) < (n : Int) := by omega
    rw [← hn] at h0
    have hcn : n ≤ c := by rw [hn]; exact hc
    have s1 : ∀ W, (Instr.slice 96 (.slice (some ⟨b, o, none⟩) n c) (some (.int .i64 1)) none none).run Try.prog W = .ok (.slice B r.length (c - 1)) W := fun W => by
      rw [run_slice_l (P := Try.prog) (w := W) 96 _ n c Try.underlying96 .i64 1 (by omega) (by omega), elem_tok.size, Result.andThen_ok]
      exact congrArg (fun v => Result.ok v W) eB
    have HK := Lib.hid (And.intro hBc hB)
    clear hr hn hc hoff hk hn1 eB hB hBc hcn
    go_enter Try.func70, Try.ntmps70
    go_wp2_with fail
    refine bodyPost_ret (v := t.v) (by simp [results, Try.results70, go_sem, Tok.v]) rfl ⟨rfl, ?_, ?_⟩
    · have hT := (Turned.refl (· = pb) w).put (k := pb) rfl 0 (.slice B r.length (c - 1))
      have h2 : ParsAt (w.setCell ⟨pb, 0, none⟩ (.slice B r.length (c - 1))) pb r g := ⟨B, c - 1, ⟨by simp [go_sem, h0], by simp [go_sem, h1]⟩, ⟨by simp [go_sem, f0], by simp [go_sem, f1]⟩, HK.out.1, HK.out.2.turned (hT.wider fun k _ h => h ▸ Nat.le_refl _)⟩
      exact (h2.below (bA _ _)).below (bA _ _)
    · exact (((Turned.refl (· = pb) w).put (k := pb) rfl 0 (.slice B r.length (c - 1))).trans (Turned.of_below (bA _ _)) (fun _ _ h => h)).trans (Turned.of_below (bA _ _)) (fun _ _ h => h)
open Go.RowKit Go.Deep
theorem NV.v_eq (x : NV) : x.v = .agg #[.int .i64 x.kind, .int .u64 (x.set 0), .int .u64 (x.set 1), .int .u64 (x.set 2), .int .u64 (x.set 3), .int .i64 x.lo, .int .i64 x.hi, .int .i64 x.num, .slice x.A x.n x.c] := rfl
def MadeN (S : Nat → Prop) (t : PN) (w : World) (e : Ending) (w' : World) : Prop := ∃ y : NV, e = .returned y.v ∧ IsP S w' t y ∧ Below w.heap.size w w'
theorem off_nine {S : Nat → Prop} {w : World} {A : Option Addr} {x : NV} {r : List NV} (h : RawOff S w A (nsV (x :: r))) : ∃ b o, A = some ⟨b, o, none⟩ ∧ b < w.heap.size ∧
    (w.cell? ⟨b, o, none⟩ = some (.int .i64 x.kind) ∧ w.cell? ⟨b, o + 1, none⟩ = some (.int .u64 (x.set 0)) ∧ w.cell? ⟨b, o + 2, none⟩ = some (.int .u64 (x.set 1)) ∧ w.cell? ⟨b, o + 3, none⟩ = some (.int .u64 (x.set 2)) ∧ w.cell? ⟨b, o + 4, none⟩ = some (.int .u64 (x.set 3)) ∧ w.cell? ⟨b, o + 5, none⟩ = some (.int .i64 x.lo) ∧ w.cell? ⟨b, o + 6, none⟩ = some (.int .i64 x.hi) ∧ w.cell? ⟨b, o + 7, none⟩ = some (.int .i64 x.num) ∧ w.cell? ⟨b, o + 8, none⟩ = some (.slice x.A x.n x.c)) := by
  rcases h with h | ⟨b, o, e, _, hr⟩
  · cases h
  · exact ⟨b, o, e, World.block_lt_of_cell? w _ (hr 0 _ rfl), hr 0 _ rfl, hr 1 _ rfl, hr 2 _ rfl, hr 3 _ rfl, hr 4 _ rfl, hr 5 _ rfl, hr 6 _ rfl, hr 7 _ rfl, hr 8 _ rfl⟩
set_option maxRecDepth 100000 in
theorem joined_is {S : Nat → Prop} {w : World} (k : Int) {ts : List PN} {xs : List NV} {A : Option Addr} {c : Nat} (hA : AllP S w ts xs) (hc : ts.length ≤ c) (hr : RawOff S w A (nsV xs)) :
    Calls Try.prog 71 #[.int .i64 k, .slice A ts.length c] w (MadeN S (joinK k ts) w) := by
  by_cases h1 : ts.length = 1
  · obtain ⟨t, rfl⟩ := List.length_eq_one_iff.1 h1
    obtain ⟨x, rfl⟩ := List.length_eq_one_iff.1 (hA.1.trans h1)
    have hx := hA.2 0 t x rfl rfl
    obtain ⟨b, o, rfl, hbl, m0, m1, m2, m3, m4, m5, m6, m7, m8⟩ := off_nine hr
    have HX := Lib.hid hx
    clear hA hc hr hx h1
    simp only [List.length_cons, List.length_nil, Nat.zero_add]
    go_enter Try.func71, Try.ntmps71
    go_wp2_with fail
    refine bodyPost_ret (v := x.v) (by simp [results, Try.results71, go_sem, NV.v_eq]) rfl ⟨x, rfl, ?_, ?_⟩
    · exact HX.out.stays (bA w _)
    · exact bA w _
  · have g0 : ((ts.length : Int) == 1) = false := by rw [beq_eq_false_iff_ne]; omega
    have HE := Lib.hid (show joinK k ts = .mk k noS 0 0 0 ts by
      unfold joinK
      split
      · rename_i x
        exact absurd rfl h1
      · rfl)
    have HN := Lib.hid (hA.node hc hr k noS 0 0 0)
    obtain ⟨n, hn⟩ : ∃ n, n = ts.length := ⟨_, rfl⟩
    rw [← hn] at g0 HN ⊢
    clear hA hc hr h1 hn
    go_enter Try.func71, Try.ntmps71
    go_wp2_with fail
    refine bodyPost_ret (v := .agg #[.int .i64 k, .int .u64 0, .int .u64 0, .int .u64 0, .int .u64 0, .int .i64 0, .int .i64 0, .int .i64 0, .slice A n c]) (by simp [results, Try.results71, go_sem]) rfl ⟨⟨k, noS, 0, 0, 0, A, n, c⟩, rfl, ?_, ?_⟩
    · rw [HE.out]
      exact HN.out.stays (bA w _)
    · exact bA w _
theorem box9 {W : World} {k : Nat} {v0 v1 v2 v3 v4 v5 v6 v7 v8 : Value} {T : TypeId} (h : W.heap[k]? = some (.cells #[v0, v1, v2, v3, v4, v5, v6, v7, v8] T)) :
    (W.cell? ⟨k, 0, none⟩ = some v0 ∧ W.cell? ⟨k, 1, none⟩ = some v1 ∧ W.cell? ⟨k, 2, none⟩ = some v2 ∧ W.cell? ⟨k, 3, none⟩ = some v3 ∧ W.cell? ⟨k, 4, none⟩ = some v4 ∧ W.cell? ⟨k, 5, none⟩ = some v5 ∧ W.cell? ⟨k, 6, none⟩ = some v6 ∧ W.cell? ⟨k, 7, none⟩ = some v7 ∧ W.cell? ⟨k, 8, none⟩ = some v8) ∧
    (W.frozen? ⟨k, 0, none⟩ = false ∧ W.frozen? ⟨k, 1, none⟩ = false ∧ W.frozen? ⟨k, 2, none⟩ = false ∧ W.frozen? ⟨k, 3, none⟩ = false ∧ W.frozen? ⟨k, 4, none⟩ = false ∧ W.frozen? ⟨k, 5, none⟩ = false ∧ W.frozen? ⟨k, 6, none⟩ = false ∧ W.frozen? ⟨k, 7, none⟩ = false ∧ W.frozen? ⟨k, 8, none⟩ = false) := by
  refine ⟨⟨?_, ?_, ?_, ?_, ?_, ?_, ?_, ?_, ?_⟩, ?_, ?_, ?_, ?_, ?_, ?_, ?_, ?_, ?_⟩
  all_goals first | simp [World.cell?, h] | simp [World.frozen?, h]
theorem new_obj (w : World) (o : Obj) : (w.alloc o).heap[w.heap.size]? = some o := heap_alloc_new w o
theorem old_obj {w : World} {k : Nat} {o : Obj} (h : w.heap[k]? = some o) (o' : Obj) : (w.alloc o').heap[k]? = some o := ((bA w o').block k (lt_of_some h)).trans h
theorem Turned.puts9 {S : Nat → Prop} {a b : World} (h : Turned S a b) {k : Nat} (hk : S k) (v0 v1 v2 v3 v4 v5 v6 v7 v8 : Value) : Turned S a (((((((((b.setCell ⟨k, 0, none⟩ v0).setCell ⟨k, 1, none⟩ v1).setCell ⟨k, 2, none⟩ v2).setCell ⟨k, 3, none⟩ v3).setCell ⟨k, 4, none⟩ v4).setCell ⟨k, 5, none⟩ v5).setCell ⟨k, 6, none⟩ v6).setCell ⟨k, 7, none⟩ v7).setCell ⟨k, 8, none⟩ v8) :=
  (((((((((h.put hk _ _).put hk _ _).put hk _ _).put hk _ _).put hk _ _).put hk _ _).put hk _ _).put hk _ _).put hk _ _)
theorem row_one {S : Nat → Prop} {w : World} (x : NV) (hS : ∀ k, S k → k < w.heap.size) (T : TypeId) : RawOff S (w.alloc (.cells #[.int .i64 x.kind, .int .u64 (x.set 0), .int .u64 (x.set 1), .int .u64 (x.set 2), .int .u64 (x.set 3), .int .i64 x.lo, .int .i64 x.hi, .int .i64 x.num, .slice x.A x.n x.c] T)) (some ⟨w.heap.size, 0, none⟩) (nsV [x]) := by
  refine .inr ⟨w.heap.size, 0, rfl, fun h => by have := hS _ h; omega, fun j v hv => ?_⟩
  rw [Nat.zero_add]
  have hc : ∀ i : Nat, (w.alloc (.cells #[.int .i64 x.kind, .int .u64 (x.set 0), .int .u64 (x.set 1), .int .u64 (x.set 2), .int .u64 (x.set 3), .int .i64 x.lo, .int .i64 x.hi, .int .i64 x.num, .slice x.A x.n x.c] T)).cell? ⟨w.heap.size, i, none⟩ = x.cells[i]? := fun i => by
    simp [go_sem, NV.cells]
  rw [hc j]
  simpa [nsV] using hv
def NodeAns (S : Nat → Prop) (pb : Nat) (x : PN × List Tok) (g : Nat) (w : World) (e : Ending) (w' : World) : Prop := ∃ z : NV, e = .returned z.v ∧ IsP S w' x.1 z ∧ ParsAt w' pb x.2 g ∧ Turned (· = pb) w w'
set_option maxRecDepth 100000 in
theorem repeated_is {S : Nat → Prop} {pb : Nat} {ts : List Tok} {g : Nat} {w : World} {t : PN} {y : NV} (hS : S pb) (hSw : ∀ k, S k → k < w.heap.size) (hy : IsP S w t y) (h : ParsAt w pb ts g) : Calls Try.prog 86 #[.pointer (some ⟨pb, 0, none⟩), y.v] w (NodeAns S pb (repP t ts) g w) := by
  have hl := h.lt
  have HP := Lib.hid h
  have HY := Lib.hid hy
  have HS := Lib.hid (And.intro hS hSw)
  rw [NV.v_eq]
  clear hS hSw
  by_cases hk : headK ts = 7
  · obtain ⟨u, r, rfl⟩ : ∃ u r, ts = u :: r := by
      cases ts with
      | nil => cases hk
      | cons u r => exact ⟨u, r, rfl⟩
    have hk7 : u.kind = 7 := hk
    have HR := Lib.hid (show repP t (u :: r) = (.mk 4 noS u.lo u.hi 0 [t], r) by simp only [repP]; rw [if_pos hk7])
    clear h hy hk7
    go_enter Try.func86, Try.ntmps86
    go_wp2_with fail
    go_at_call 64
    refine (next_is (HP.out.below ((bA w _).alloc (by simp) _))).mono ?_
    rintro e w1 ⟨rfl, rfl⟩
    rw [hk]
    go_wp2_with fail
    go_at_call 70
    refine (take_is (HP.out.below ((bA w _).alloc (by simp) _))).mono ?_
    rintro e w2 ⟨rfl, hP2, hT2⟩
    obtain ⟨⟨k0, k1, k2, k3, k4, k5, k6, k7, k8⟩, _⟩ := box9 (hT2.obj (old_obj (new_obj w _) _) (by omega))
    obtain ⟨⟨c0, c1, c2, c3, c4, c5, c6, c7, c8⟩, f0, f1, f2, f3, f4, f5, f6, f7, f8⟩ := box9 (hT2.obj (k := w.heap.size + 1) (by have := new_obj (w.alloc (.cells #[.int .i64 y.kind, .int .u64 (y.set 0), .int .u64 (y.set 1), .int .u64 (y.set 2), .int .u64 (y.set 3), .int .i64 y.lo, .int .i64 y.hi, .int .i64 y.num, .slice y.A y.n y.c] 37)) (.cells #[.int .i64 0, .int .u64 0, .int .u64 0, .int .u64 0, .int .u64 0, .int .i64 0, .int .i64 0, .int .i64 0, .slice none 0 0] 37); simpa using this) (by omega))
    have hz : w.heap.size + 2 ≤ w2.heap.size := by have := hT2.size; simpa using this
    have l0 : w.heap.size < w2.heap.size := by omega
    have l1 : w.heap.size + 1 < w2.heap.size := by omega
    have HT2 := Lib.hid (And.intro hP2 ((Turned.of_below (S := (· = pb)) ((bA w _).alloc (by simp) _)).trans hT2 (fun _ _ h => h)))
    clear hP2 hT2 hk
    rw [show (headT (u :: r)).v = .agg #[.int .i64 u.kind, .int .u64 (u.set 0), .int .u64 (u.set 1), .int .u64 (u.set 2), .int .u64 (u.set 3), .int .i64 u.lo, .int .i64 u.hi] from rfl]
    go_wp2_with fail
    refine bodyPost_ret (v := .agg #[.int .i64 4, .int .u64 0, .int .u64 0, .int .u64 0, .int .u64 0, .int .i64 u.lo, .int .i64 u.hi, .int .i64 0, .slice (some ⟨w2.heap.size + 1, 0, none⟩) 1 1]) (by simp [results, Try.results86, go_sem, c0, c1, c2, c3, c4, c5, c6, c7, c8, l0, l1]) rfl ?_
    clear c0 c1 c2 c3 c4 c5 c6 c7 c8 f0 f1 f2 f3 f4 f5 f6 f7 f8 k0 k1 k2 k3 k4 k5 k6 k7 k8
    have T3 := (Turned.refl (· = w.heap.size + 1) w2).puts9 (k := w.heap.size + 1) rfl (.int .i64 4) (.int .u64 0) (.int .u64 0) (.int .u64 0) (.int .u64 0) (.int .i64 u.lo) (.int .i64 u.hi) (.int .i64 0) (.slice (some ⟨w2.heap.size + 1, 0, none⟩) 1 1)
    obtain ⟨w3, hw3⟩ : ∃ w3, w3 = (((((((((w2.setCell ⟨w.heap.size + 1, 0, none⟩ (.int .i64 4)).setCell ⟨w.heap.size + 1, 1, none⟩ (.int .u64 0)).setCell ⟨w.heap.size + 1, 2, none⟩ (.int .u64 0)).setCell ⟨w.heap.size + 1, 3, none⟩ (.int .u64 0)).setCell ⟨w.heap.size + 1, 4, none⟩ (.int .u64 0)).setCell ⟨w.heap.size + 1, 5, none⟩ (.int .i64 u.lo)).setCell ⟨w.heap.size + 1, 6, none⟩ (.int .i64 u.hi)).setCell ⟨w.heap.size + 1, 7, none⟩ (.int .i64 0)).setCell ⟨w.heap.size + 1, 8, none⟩ (.slice (some ⟨w2.heap.size + 1, 0, none⟩) 1 1)) := ⟨_, rfl⟩
    have z3 : w3.heap.size = w2.heap.size := by rw [hw3]; simp
    rw [← hw3] at T3 ⊢
    clear hw3
    obtain ⟨o1, ho1⟩ : ∃ o1, o1 = Obj.cells #[.int .i64 u.kind, .int .u64 (u.set 0), .int .u64 (u.set 1), .int .u64 (u.set 2), .int .u64 (u.set 3), .int .i64 u.lo, .int .i64 u.hi] 111 := ⟨_, rfl⟩
    rw [← ho1]
    have hS2 : ∀ k, S k → k < (w3.alloc o1).heap.size := fun k hk => by
      have := HS.out.2 k hk
      rw [World.size_alloc]
      omega
    have hrow := row_one (S := S) (w := w3.alloc o1) y hS2 37
    rw [World.size_alloc, z3] at hrow
    have T4 := (T3.trans (Turned.of_below (bA _ o1)) (fun _ _ h => h)).trans (Turned.of_below (bA _ (.cells #[.int .i64 y.kind, .int .u64 (y.set 0), .int .u64 (y.set 1), .int .u64 (y.set 2), .int .u64 (y.set 3), .int .i64 y.lo, .int .i64 y.hi, .int .i64 y.num, .slice y.A y.n y.c] 37))) (fun _ _ h => h)
    have T5 : Turned (· = pb) w _ := HT2.out.2.trans (T4.wider (T := fun k => k = pb ∨ w.heap.size ≤ k) (fun k _ h => .inr (by rw [h]; omega))) (fun i hi h => by
      rcases h with h | h
      · exact h
      · omega)
    refine ⟨⟨4, noS, u.lo, u.hi, 0, some ⟨w2.heap.size + 1, 0, none⟩, 1, 1⟩, rfl, ?_, ?_, T5⟩
    · rw [HR.out]
      exact (AllP.one (HY.out.turned (T5.wider fun k _ h => h ▸ HS.out.1))).node (Nat.le_refl _) hrow 4 noS u.lo u.hi 0
    · rw [HR.out]
      exact HT2.out.1.turned T4 (fun k h => by rw [h]; omega)
  · have hq : (headK ts != 7) = true := by simpa using hk
    obtain ⟨q, hq2⟩ : ∃ q, q = headK ts := ⟨_, rfl⟩
    have HN := Lib.hid fun (W : World) (hW : Below w.heap.size w W) => next_is (HP.out.below hW)
    rw [← hq2] at hq HN
    have HR := Lib.hid (show repP t ts = (t, ts) by
      cases ts with
      | nil => rfl
      | cons u r => simp only [repP]; rw [if_neg (show ¬ u.kind = 7 from hk)])
    clear h hy hk hq2
    go_enter Try.func86, Try.ntmps86
    go_wp2_with fail
    go_at_call 64
    refine (HN.out _ ((bA w _).alloc (by simp) _)).mono ?_
    rintro e w1 ⟨rfl, rfl⟩
    go_wp2_with fail
    refine bodyPost_ret (v := y.v) (by simp [results, Try.results86, go_sem, NV.v_eq]) rfl ?_
    rw [HR.out]
    refine ⟨y, rfl, HY.out.stays ?_, HP.out.below ?_, Turned.of_below ?_⟩
    all_goals exact (bA w _).alloc (by simp) _
end Go.Proofs.Ytncbmdbfdjhkeaa

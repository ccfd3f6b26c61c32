/-
  The document's answer's Line, Of and Cut, and the law's pick. Condition: the text is no longer than 2^40 bytes.
-/
import Derived.Test.YtfibclaojdoonaaRlines
namespace Go.Proofs.Ytfibclaojdoonaa
open Go.RowKit Go.Deep

theorem lns_ne : ∀ (l : List UInt8), ∀ x ∈ lns l, x ≠ []
  | [], x, h => by cases h
  | c :: r, x, h => by
    have ih := lns_ne r
    have h' : x ∈ (if c = 10 then [10] :: lns r else match lns r with
      | [] => [[c]]
      | y :: ys => (c :: y) :: ys) := h
    split at h'
    · rcases List.mem_cons.1 h' with h' | h'
      · rw [h']; simp
      · exact ih x h'
    · split at h'
      · rw [List.mem_singleton] at h'
        rw [h']; simp
      · rename_i y ys he
        rcases List.mem_cons.1 h' with h' | h'
        · rw [h']; simp
        · exact ih x (by rw [he]; simp [h'])
/-- The document's answer for line n: its bytes without the line feed, whether it has one, and the error. -/
def lineAns (l : List UInt8) (n : Int) : List UInt8 × Bool × Int :=
  if 0 ≤ n then match (lns l)[n.toNat]? with
    | some x => if x.getLast? = some 10 then (x.dropLast, true, 0) else (x, false, 0)
    | none => ([], false, 61)
  else ([], false, 61)
def LineIs (a : List UInt8 × Bool × Int) (w : World) (e : Ending) (w' : World) : Prop := e = .returned (.tuple #[.string (txt a.1), .bool a.2.1, .int .i64 a.2.2]) ∧ Below w.heap.size w w'

set_option maxRecDepth 100000 in
set_option maxHeartbeats 2000000 in
theorem ref_line (l : List UInt8) (s : ByteArray) (hs : s = txt l) (n : Int) (w : World) (hl : l.length ≤ 1099511627776) (hn : (Lit.int .i64 n).wf = true) :
    Calls Try.prog 26 #[.string s, .int .i64 n] w (LineIs (lineAns l n) w) := by
  have HL := Lib.hid (ref_lines l s hs w hl)
  have htn : (⟨#[]⟩ : ByteArray) = txt [] := rfl
  by_cases hneg : n < 0
  · have ha : lineAns l n = ([], false, 61) := by unfold lineAns; rw [if_neg (by omega)]
    have hneg' : decide (n < 0) = true := by simp [hneg]
    have HA := Lib.hid ha
    clear hs hl hn ha hneg
    go_enter Try.func26, Try.ntmps26
    go_wp2_with fail
    go_at_call 27
    (with_reducible refine HL.out.mono ?_)
    rintro e w1 ⟨v, rfl, hown, hb⟩
    have HB := Lib.hid hb
    clear hown hb
    go_wp2_with fail
    go_ret3
    exact ⟨by rw [HA.out]; rfl, HB.out⟩
  · obtain ⟨m, rfl⟩ := Int.eq_ofNat_of_zero_le (show 0 ≤ n by omega)
    have hneg' : decide ((m : Int) < 0) = false := by simp
    by_cases hm : m < (lns l).length
    · obtain ⟨x, hx⟩ : ∃ x, (lns l)[m]? = some x := ⟨_, List.getElem?_eq_getElem hm⟩
      have hne := lns_ne l x (List.mem_of_getElem? hx)
      have hxl : 0 < x.length := List.length_pos_iff.2 hne
      have hxm : x.length ≤ 1099511627776 := by
        have h1 := lns_flatten l
        have h2 : x.length ≤ (lns l).flatten.length := by
          exact (List.sublist_flatten_of_mem (List.mem_of_getElem? hx)).length_le
        rw [h1] at h2
        omega
      obtain ⟨S, eS⟩ : ∃ S, S = txt x := ⟨_, rfl⟩
      have hSs : S.size = x.length := by rw [eS, size_txt]
      obtain ⟨z, ez⟩ : ∃ z, z = x.length - 1 := ⟨_, rfl⟩
      have hzI : (S.size : Int) - 1 = (z : Int) := by omega
      have q1 : IntKind.i64.wrap ((S.size : Int) - 1) = (z : Int) := by rw [hzI]; exact IntWalk.i64_in _ (by omega)
      have hz : z < S.size := by omega
      have hgz := txt_get eS z hz
      have hgl : x.getLast? = some S[z] := by
        rw [← hgz, ez, List.getLast?_eq_getElem?]
      have hto := str_slice_to eS (b := z) (by omega)
      have hdl : x.take z = x.dropLast := by rw [ez, List.dropLast_eq_take]
      rw [hdl] at hto
      obtain ⟨D, eD⟩ : ∃ D, D = txt x.dropLast := ⟨_, rfl⟩
      rw [← eD] at hto
      have hc : decide ((lns l).length ≤ m) = false := by simp; omega
      obtain ⟨nn, enn⟩ : ∃ nn, nn = (lns l).length := ⟨_, rfl⟩
      have hmI : (m : Int) < (nn : Int) := by omega
      have hm0 : (0 : Int) ≤ (m : Int) := by omega
      rw [← enn] at hc
      have hcI : decide ((nn : Int) ≤ (m : Int)) = false := by simp; omega
      have HX := Lib.hid hx
      have HGL := Lib.hid hgl
      have ES := Lib.hid eS
      have ED := Lib.hid eD
      have ENN := Lib.hid enn
      clear hs hl hn hm hx hne hxl hxm hzI hgz hgl hdl eS eD enn ez hSs
      go_enter Try.func26, Try.ntmps26
      go_wp2_with fail
      go_at_call 27
      (with_reducible refine HL.out.mono ?_)
      rintro e w1 ⟨v, rfl, hown, hb⟩
      obtain ⟨A, c, rfl, hel⟩ := hown.form
      obtain ⟨k, rfl, hcell⟩ := hel m x HX.out
      rw [← ES.out] at hcell
      rw [← ENN.out]
      have HB := Lib.hid hb
      clear hown hb hel
      by_cases h10 : S[z] = 10
      · have hb10 : ((S[z].toNat : Int) == 10) = true := by rw [h10]; rfl
        have ha : lineAns l (m : Int) = (x.dropLast, true, 0) := by
          unfold lineAns
          rw [if_pos (by omega), Int.toNat_natCast, HX.out]
          simp only
          rw [if_pos (by rw [HGL.out, h10])]
        have HA := Lib.hid ha
        clear ha h10
        go_wp2_with fail
        go_ret3
        exact ⟨by rw [HA.out, ← ED.out]; rfl, HB.out⟩
      · have hb10 : ((S[z].toNat : Int) == 10) = false := by
          have : S[z].toNat ≠ 10 := fun h => h10 (UInt8.toNat_inj.1 h)
          simp
          omega
        have ha : lineAns l (m : Int) = (x, false, 0) := by
          unfold lineAns
          rw [if_pos (by omega), Int.toNat_natCast, HX.out]
          simp only
          rw [if_neg (by rw [HGL.out]; intro h; injection h with h; exact h10 h)]
        have HA := Lib.hid ha
        clear ha h10
        go_wp2_with fail
        go_ret3
        exact ⟨by rw [HA.out, ← ES.out]; rfl, HB.out⟩
    · have ha : lineAns l (m : Int) = ([], false, 61) := by
        unfold lineAns
        rw [if_pos (by omega), Int.toNat_natCast, List.getElem?_eq_none (by omega)]
      have hc : decide ((lns l).length ≤ m) = true := by simp; omega
      obtain ⟨nn, enn⟩ : ∃ nn, nn = (lns l).length := ⟨_, rfl⟩
      rw [← enn] at hc
      have hcI : decide ((nn : Int) ≤ (m : Int)) = true := by simp; omega
      have HA := Lib.hid ha
      have ENN := Lib.hid enn
      clear hs hl hn hm ha enn
      go_enter Try.func26, Try.ntmps26
      go_wp2_with fail
      go_at_call 27
      (with_reducible refine HL.out.mono ?_)
      rintro e w1 ⟨v, rfl, hown, hb⟩
      obtain ⟨A, c, rfl, _⟩ := hown.form
      rw [← ENN.out]
      have HB := Lib.hid hb
      clear hown hb
      go_wp2_with fail
      go_ret3
      exact ⟨by rw [HA.out]; rfl, HB.out⟩

theorem ref_of_ok (l : List UInt8) (s : ByteArray) (hs : s = txt l) (w : World) (hl : l.length ≤ 65536) : Calls Try.prog 10 #[.string s] w fun e w' => e = .returned (.tuple #[.string s, .int .i64 0]) ∧ w = w' := by
  have h1 : (s.size : Int) ≤ 65536 := by rw [hs, size_txt]; omega
  clear hs hl
  go_enter Try.func10, Try.ntmps10
  go_wp2_with fail
  go_ret2
  exact ⟨rfl, rfl⟩
theorem ref_of_no (l : List UInt8) (s : ByteArray) (hs : s = txt l) (w : World) (hl : 65536 < l.length) : Calls Try.prog 10 #[.string s] w fun e w' => e = .returned (.tuple #[.string ⟨#[]⟩, .int .i64 73]) ∧ w = w' := by
  have h1 : ¬ (s.size : Int) ≤ 65536 := by rw [hs, size_txt]; omega
  clear hs hl
  go_enter Try.func10, Try.ntmps10
  go_wp2_with fail
  go_ret2
  exact ⟨rfl, rfl⟩
def CutOk (l : List UInt8) (a b : Int) : Prop := 0 ≤ a ∧ a ≤ b ∧ b ≤ (l.length : Int)
theorem ref_cut_ok (l : List UInt8) (s : ByteArray) (hs : s = txt l) (a b : Nat) (w : World) (h1 : a ≤ b) (h2 : b ≤ l.length) :
    Calls Try.prog 13 #[.string s, .int .i64 (a : Int), .int .i64 (b : Int)] w fun e w' => e = .returned (.tuple #[.string (txt ((l.take b).drop a)), .int .i64 0]) ∧ w = w' := by
  have hsl := str_slice hs h1 h2
  have hsz : s.size = l.length := by rw [hs, size_txt]
  have d1 : decide ((a : Int) < 0) = false := by simp
  have d2 : decide ((b : Int) < (a : Int)) = false := by simp; omega
  have d2n : decide (b < a) = false := by simp; omega
  have d3 : decide ((s.size : Int) < (b : Int)) = false := by simp; omega
  have d3n : decide (s.size < b) = false := by simp; omega
  obtain ⟨S, eS⟩ : ∃ S, S = txt ((l.take b).drop a) := ⟨_, rfl⟩
  rw [← eS] at hsl ⊢
  clear hs hsz h1 h2 eS
  go_enter Try.func13, Try.ntmps13
  go_wp2_with fail
  go_ret2
  exact ⟨rfl, rfl⟩
theorem ref_cut_no (l : List UInt8) (s : ByteArray) (hs : s = txt l) (a b : Int) (w : World) (h : ¬ CutOk l a b) :
    Calls Try.prog 13 #[.string s, .int .i64 a, .int .i64 b] w fun e w' => e = .returned (.tuple #[.string ⟨#[]⟩, .int .i64 61]) ∧ w = w' := by
  have hsz : s.size = l.length := by rw [hs, size_txt]
  unfold CutOk at h
  by_cases ha : a < 0
  · have d1 : decide (a < 0) = true := by simp [ha]
    clear hs hsz h
    go_enter Try.func13, Try.ntmps13
    go_wp2_with fail
    go_ret2
    exact ⟨rfl, rfl⟩
  · have d1 : decide (a < 0) = false := by simp; omega
    by_cases hb : b < a
    · have d2 : decide (b < a) = true := by simp [hb]
      clear hs hsz h
      go_enter Try.func13, Try.ntmps13
      go_wp2_with fail
      go_ret2
      exact ⟨rfl, rfl⟩
    · have d2 : decide (b < a) = false := by simp; omega
      have d3 : decide ((s.size : Int) < b) = true := by simp; omega
      clear hs hsz h
      go_enter Try.func13, Try.ntmps13
      go_wp2_with fail
      go_ret2
      exact ⟨rfl, rfl⟩

theorem i64_bounds {n : Int} (h : (Lit.int .i64 n).wf = true) : -9223372036854775808 ≤ n ∧ n ≤ 9223372036854775807 := by
  have h : IntKind.i64.min ≤ n ∧ n ≤ IntKind.i64.max := by simpa [Lit.wf] using h
  exact h
/-- Which of m a raw number speaks of. -/
def red (n : Int) (m : Nat) : Nat := (if n < 0 then -(n + 1) else n).toNat % m
theorem red_lt (n : Int) (m : Nat) (h : 0 < m) : red n m < m := Nat.mod_lt _ h
theorem pick_any (n : Int) (m : Nat) (w : World) (hn : (Lit.int .i64 n).wf = true) (hm : 0 < m) (hm2 : m ≤ 1099511627776) :
    Calls Try.prog 8 #[.int .i64 n, .int .i64 (m : Int)] w fun e w' => e = .returned (.int .i64 (red n m : Int)) ∧ w = w' := by
  obtain ⟨b1, b2⟩ := i64_bounds hn
  have hm0 : (0 : Int) < (m : Int) := by omega
  by_cases h : n < 0
  · have e : (red n m : Int) = -((n + 1).tmod m) := by
      unfold red
      rw [if_pos h, Int.natCast_emod, Int.toNat_of_nonneg (by omega), ← Int.neg_tmod, Int.tmod_eq_emod_of_nonneg (by omega)]
    have E := Lib.hid e
    clear e
    go_enter Try.func8, Try.ntmps8
    go_wp2
    go_ret
    refine ⟨?_, rfl⟩
    rw [E.out]
    rfl
  · have e : (red n m : Int) = n % m := by
      unfold red
      rw [if_neg h, Int.natCast_emod, Int.toNat_of_nonneg (by omega)]
    have h' : 0 ≤ n := by omega
    have E := Lib.hid e
    clear e h
    go_enter Try.func8, Try.ntmps8
    go_wp2
    go_ret
    refine ⟨?_, rfl⟩
    rw [E.out]
    rfl
end Go.Proofs.Ytfibclaojdoonaa

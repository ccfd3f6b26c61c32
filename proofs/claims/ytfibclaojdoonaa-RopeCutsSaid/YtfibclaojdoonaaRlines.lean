/-
  The document's answer's Lines: a text's lines, in a row of the call's own. Condition: the text is no longer than 2^40 bytes.
-/
import Derived.Test.YtfibclaojdoonaaStrs
namespace Go.Proofs.Ytfibclaojdoonaa
open Go.RowKit Go.Deep

def LinesAns (l : List UInt8) (w : World) (e : Ending) (w' : World) : Prop := ∃ v, e = .returned v ∧ StrsOwn w' w.heap.size v (lns l) ∧ Below w.heap.size w w'
/-- From the text's byte a on no line is cut yet, up to byte i. -/
def LnRel (l : List UInt8) (a i : Nat) (ls : List (List UInt8)) : Prop := a ≤ i ∧ i ≤ l.length ∧ lns l = ls ++ lns (l.drop a) ∧ (∀ c ∈ (l.take i).drop a, c ≠ 10)
theorem LnRel.start (l : List UInt8) : LnRel l 0 0 [] := ⟨Nat.le_refl _, Nat.zero_le _, rfl, fun c h => by simp at h⟩
theorem seg_succ {l : List UInt8} {a i : Nat} {c : UInt8} (ha : a ≤ i) (h : l[i]? = some c) : (l.take (i + 1)).drop a = (l.take i).drop a ++ [c] := by
  have hi := (List.getElem?_eq_some_iff.1 h).1
  rw [List.take_add_one, h, List.drop_append_of_le_length (by rw [List.length_take]; omega)]
  rfl
theorem seg_split {l : List UInt8} {a i : Nat} {c : UInt8} (ha : a ≤ i) (h : l[i]? = some c) : l.drop a = (l.take i).drop a ++ c :: l.drop (i + 1) := by
  have hi := (List.getElem?_eq_some_iff.1 h).1
  have e : l = l.take i ++ c :: l.drop (i + 1) := by
    rw [show c :: l.drop (i + 1) = l.drop i by
      rw [List.drop_eq_getElem_cons hi]
      congr 1
      exact ((List.getElem?_eq_some_iff.1 h).2).symm, List.take_append_drop]
  conv => lhs; rw [e]
  rw [List.drop_append_of_le_length (by rw [List.length_take]; omega)]
theorem LnRel.feed {l : List UInt8} {a i : Nat} {ls : List (List UInt8)} (h : LnRel l a i ls) (hc : l[i]? = some 10) : LnRel l (i + 1) (i + 1) (ls ++ [(l.take (i + 1)).drop a]) := by
  obtain ⟨h1, h2, h3, h4⟩ := h
  have hi := (List.getElem?_eq_some_iff.1 hc).1
  refine ⟨Nat.le_refl _, hi, ?_, fun c h => by rw [List.drop_of_length_le (by rw [List.length_take]; omega)] at h; cases h⟩
  rw [h3, seg_split h1 hc, lns_line _ _ h4, seg_succ h1 hc, List.append_assoc]
  rfl
theorem LnRel.other {l : List UInt8} {a i : Nat} {ls : List (List UInt8)} {c : UInt8} (h : LnRel l a i ls) (hc : l[i]? = some c) (hn : c ≠ 10) : LnRel l a (i + 1) ls := by
  obtain ⟨h1, h2, h3, h4⟩ := h
  have hi := (List.getElem?_eq_some_iff.1 hc).1
  refine ⟨by omega, hi, h3, fun x hx => ?_⟩
  rw [seg_succ h1 hc] at hx
  rcases List.mem_append.1 hx with hx | hx
  · exact h4 x hx
  · rw [List.mem_singleton] at hx
    rw [hx]
    exact hn
theorem LnRel.done {l : List UInt8} {a : Nat} {ls : List (List UInt8)} (h : LnRel l a l.length ls) : lns l = ls ++ if a < l.length then [l.drop a] else [] := by
  obtain ⟨h1, h2, h3, h4⟩ := h
  rw [List.take_length] at h4
  rw [h3, lns_plain _ h4]
  by_cases ha : a < l.length
  · rw [if_pos ha, if_neg (fun e => by have := congrArg List.length e; rw [List.length_drop, List.length_nil] at this; omega)]
  · rw [if_neg ha, if_pos (List.drop_of_length_le (by omega))]
theorem LnRel.count {l : List UInt8} {a i : Nat} {ls : List (List UInt8)} (h : LnRel l a i ls) : ls.length ≤ l.length := by
  have h3 := h.2.2.1
  have h1 := length_lns l
  have h2 : feeds l + rest l ≤ l.length := by
    unfold feeds rest
    have hc := List.count_le_length (a := (10 : UInt8)) (l := l)
    cases hg : l.getLast? with
    | none => simpa using hc
    | some x =>
      simp only
      split
      · omega
      · rename_i hx
        have hne : l ≠ [] := fun e => by rw [e] at hg; cases hg
        have e := List.dropLast_concat_getLast hne
        have hx2 : l.getLast hne = x := by
          rw [List.getLast?_eq_some_getLast hne] at hg
          injection hg
        rw [hx2] at e
        have hlen : l.length = l.dropLast.length + 1 := by
          conv => lhs; rw [← e]
          simp
        have hcount : l.count 10 = l.dropLast.count 10 := by
          conv => lhs; rw [← e]
          rw [List.count_append]
          simp [hx]
        have := List.count_le_length (a := (10 : UInt8)) (l := l.dropLast)
        omega
  have := congrArg List.length h3
  rw [List.length_append] at this
  omega

set_option maxRecDepth 100000 in
set_option maxHeartbeats 2000000 in
theorem ref_lines (l : List UInt8) (s : ByteArray) (hs : s = txt l) (w : World) (hl : l.length ≤ 1099511627776) :
    Calls Try.prog 27 #[.string s] w (LinesAns l w) := by
  have hsz : s.size = l.length := by rw [hs, size_txt]
  have hget : ∀ i (h : i < s.size), l[i]? = some s[i] := fun i h => txt_get hs i h
  have HS := Lib.hid hs
  have HSZ := Lib.hid hsz
  have HG := Lib.hid hget
  have hs40 : s.size ≤ 1099511627776 := by omega
  clear hs hsz hget hl
  go_enter Try.func27, Try.ntmps27
  go_wp2_with fail
  go_loopw [3, 4, 5] (fun v av iv wr => ∃ (a i : Nat) (ls : List (List UInt8)), av = .int .i64 (a : Int) ∧ iv = .int .i64 (i : Int) ∧ i ≤ s.size ∧ a ≤ i ∧ LnRel l a i ls ∧ StrsOwn wr w.heap.size v ls ∧ Below w.heap.size w wr) (fun _ _ iv _ => s.size - (intOf iv).toNat)
  case atStart => exact ⟨0, 0, [], rfl, rfl, Nat.zero_le _, Nat.le_refl _, LnRel.start l, StrsOwn.nil _ _, Below.refl _ _⟩
  case round =>
    obtain ⟨a, i, ls, rfl, rfl, hi, hai, hrel, hown, hb⟩ := hrel
    have HR := Lib.hid hrel
    have HO := Lib.hid hown
    have HB := Lib.hid hb
    by_cases hlt : i < s.size
    · have hc := HG.out i hlt
      have hiI : (i : Int) < (s.size : Int) := by omega
      have hi0 : (0 : Int) ≤ (i : Int) := by omega
      have HC := Lib.hid hc
      clear hrel hown hb hc
      by_cases h10 : s[i] = 10
      · have hx : ((s[i].toNat : Int) == 10) = true := by rw [h10]; rfl
        have HC10 : Hid (l[i]? = some 10) := Lib.hid (by rw [HC.out, h10])
        have hsl := str_slice HS.out (a := a) (b := i + 1) (by omega) (by have := HSZ.out; omega)
        rw [Int.natCast_add, show ((1 : Nat) : Int) = 1 from rfl] at hsl
        obtain ⟨S, eS⟩ : ∃ S, S = txt ((l.take (i + 1)).drop a) := ⟨_, rfl⟩
        rw [← eS] at hsl
        have HSL := Lib.hid eS
        have hln : ls.length ≤ 1099511627776 := by have := HR.out.count; have := HSZ.out; omega
        have HLN := Lib.hid hln
        clear h10 hln eS
        go_wp2_with ((refine wpList_append_str 23 ((l.take (i + 1)).drop a) HO.out HSL.out rfl rfl HLN.out HB.out.size ?_))
        intro v5 w5 hown5 ht5 hv5
        have hb5 : Below w.heap.size w w5 := ⟨ht5.os.trans HB.out.os, ht5.tape.trans HB.out.tape, ht5.output.trans HB.out.output, Nat.le_trans HB.out.size ht5.size, fun k hk => (ht5.block k (Nat.lt_of_lt_of_le hk HB.out.size) (fun h => by have := (HO.out.lt k h).1; omega)).trans (HB.out.block k hk)⟩
        have HO5 := Lib.hid hown5
        have HB5 := Lib.hid hb5
        clear hown5 ht5 hv5 hb5
        go_wp2_with fail
        go_roundw
        case rel => exact ⟨i + 1, i + 1, _, by go_num, by go_num, by omega, Nat.le_refl _, HR.out.feed HC10.out, HO5.out, HB5.out⟩
        case measure => simp [intOf]; omega
      · have hx : ((s[i].toNat : Int) == 10) = false := by
          have : s[i].toNat ≠ 10 := fun h => h10 (UInt8.toNat_inj.1 h)
          simp
          omega
        have H10 := Lib.hid h10
        clear h10
        go_wp2_with fail
        go_roundw
        case rel => exact ⟨a, i + 1, ls, rfl, by go_num, by omega, by omega, HR.out.other HC.out H10.out, HO.out, HB.out⟩
        case measure => simp [intOf]; omega
    · have hie : i = l.length := by have := HSZ.out; omega
      have hiI : ¬ (i : Int) < (s.size : Int) := by omega
      rw [hie] at hrel
      have hd := hrel.done
      have hln : ls.length ≤ 1099511627776 := by have := hrel.count; have := HSZ.out; omega
      have HLN := Lib.hid hln
      by_cases ha : a < s.size
      · have haI : (a : Int) < (s.size : Int) := by omega
        rw [if_pos (by have := HSZ.out; omega)] at hd
        have hsl := str_slice_from HS.out (a := a) (by have := HSZ.out; omega)
        obtain ⟨S, eS⟩ : ∃ S, S = txt (l.drop a) := ⟨_, rfl⟩
        rw [← eS] at hsl
        have HD := Lib.hid hd
        have HSL := Lib.hid eS
        clear hrel hown hb hd hln hie eS
        go_wp2_with ((refine wpList_append_str 35 (l.drop a) HO.out HSL.out rfl rfl HLN.out HB.out.size ?_))
        intro v5 w5 hown5 ht5 hv5
        have hb5 : Below w.heap.size w w5 := ⟨ht5.os.trans HB.out.os, ht5.tape.trans HB.out.tape, ht5.output.trans HB.out.output, Nat.le_trans HB.out.size ht5.size, fun k hk => (ht5.block k (Nat.lt_of_lt_of_le hk HB.out.size) (fun h => by have := (HO.out.lt k h).1; omega)).trans (HB.out.block k hk)⟩
        have HO5 := Lib.hid hown5
        have HB5 := Lib.hid hb5
        clear hown5 ht5 hv5 hb5
        go_wp2_with fail
        go_ret
        exact ⟨_, rfl, HD.out ▸ HO5.out, HB5.out⟩
      · have haI : ¬ (a : Int) < (s.size : Int) := by omega
        rw [if_neg (by have := HSZ.out; omega), List.append_nil] at hd
        have HD := Lib.hid hd
        clear hrel hown hb hd hln hie
        go_wp2_with fail
        go_ret
        exact ⟨_, rfl, HD.out ▸ HO.out, HB.out⟩
end Go.Proofs.Ytfibclaojdoonaa

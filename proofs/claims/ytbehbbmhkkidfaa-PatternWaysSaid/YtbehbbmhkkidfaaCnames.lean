/-
  class.Named, and the document's. No condition.
-/
import Derived.Test.YtbehbbmhkkidfaaCnamed
import Derived.Test.YtbehbbmhkkidfaaCindef
import Derived.Test.YtbehbbmhkkidfaaCeq
namespace Go.Proofs.Ytbehbbmhkkidfaa
open Go.RowKit

theorem named_none (l : List UInt8) (h : isName l = false) : nameS l = noS := by
  unfold isName at h
  simp only [Bool.or_eq_false_iff, beq_eq_false_iff_ne, ne_eq, and_assoc] at h
  obtain ⟨h0, h1, h2, h3, h4, h5, h6, h7, h8, h9, h10, h11⟩ := h
  unfold nameS
  rw [if_neg h0, if_neg h1, if_neg h2, if_neg h3, if_neg h4, if_neg h5, if_neg h6, if_neg h7, if_neg h8, if_neg h9, if_neg h10, if_neg h11]
/-- A property of each name is one of all that are names. -/
theorem names_all {p : List UInt8 → Prop} (hp : p [97, 108, 112, 104, 97] ∧ p [100, 105, 103, 105, 116] ∧ p [97, 108, 110, 117, 109] ∧ p [117, 112, 112, 101, 114] ∧ p [108, 111, 119, 101, 114] ∧ p [115, 112, 97, 99, 101] ∧ p [98, 108, 97, 110, 107] ∧ p [112, 117, 110, 99, 116] ∧ p [112, 114, 105, 110, 116] ∧ p [103, 114, 97, 112, 104] ∧ p [99, 110, 116, 114, 108] ∧ p [120, 100, 105, 103, 105, 116]) (l : List UInt8) (h : isName l = true) : p l := by
  obtain ⟨h0, h1, h2, h3, h4, h5, h6, h7, h8, h9, h10, h11⟩ := hp
  unfold isName at h
  simp only [Bool.or_eq_true, beq_iff_eq, or_assoc] at h
  rcases h with rfl | rfl | rfl | rfl | rfl | rfl | rfl | rfl | rfl | rfl | rfl | rfl <;> assumption
theorem ite_ok {p : Prop} [Decidable p] {a b : Nat → Nat} (ha : OkS a) (hb : OkS b) : OkS (if p then a else b) := by
  by_cases h : p
  · rw [if_pos h]; exact ha
  · rw [if_neg h]; exact hb
theorem nameS_ok (l : List UInt8) : OkS (nameS l) := by
  have u : OkS cUP := OkS.no.withS _ _
  have lo : OkS cLO := OkS.no.withS _ _
  have di : OkS cDI := OkS.no.withS _ _
  have al : OkS cAL := (u.both lo).both di
  have gr : OkS cGR := OkS.no.withS _ _
  unfold nameS
  exact ite_ok (u.both lo) (ite_ok di (ite_ok al (ite_ok u (ite_ok lo (ite_ok ((OkS.no.withS _ _).withS _ _) (ite_ok ((OkS.no.withS _ _).withS _ _) (ite_ok (gr.not.both al).not (ite_ok (gr.withS _ _) (ite_ok gr (ite_ok ((OkS.no.withS _ _).withS _ _) (ite_ok ((di.withS _ _).withS _ _) OkS.no)))))))))))
theorem named_some (l : List UInt8) : sameS (nameS l) noS = !isName l := by
  cases h : isName l with
  | false => rw [named_none l h]; rfl
  | true =>
    refine names_all (p := fun l => sameS (nameS l) noS = !true) ?_ l h
    refine ⟨?_, ?_, ?_, ?_, ?_, ?_, ?_, ?_, ?_, ?_, ?_, ?_⟩ <;> kernel_rfl
theorem in_has (l : List UInt8) (h : isName l = true) (c : Nat) : (inS l c = if has (nameS l) c = true then 1 else 0) := by
  refine names_all (p := fun l => inS l c = if has (nameS l) c = true then 1 else 0) ?_ l h
  have hu : ∀ c, has cUP c = (decide (65 ≤ c) && decide (c ≤ 90)) := fun c => by unfold cUP; rw [has_with, has_no, Bool.false_or]
  have hl : ∀ c, has cLO c = (decide (97 ≤ c) && decide (c ≤ 122)) := fun c => by unfold cLO; rw [has_with, has_no, Bool.false_or]
  have hd : ∀ c, has cDI c = (decide (48 ≤ c) && decide (c ≤ 57)) := fun c => by unfold cDI; rw [has_with, has_no, Bool.false_or]
  have hg : ∀ c, has cGR c = (decide (33 ≤ c) && decide (c ≤ 126)) := fun c => by unfold cGR; rw [has_with, has_no, Bool.false_or]
  have ha : ∀ c, has cAL c = (has cUP c || has cLO c || has cDI c) := fun c => by unfold cAL; rw [has_both, has_both]
  refine ⟨?_, ?_, ?_, ?_, ?_, ?_, ?_, ?_, ?_, ?_, ?_, ?_⟩
  · rw [inS_alpha, show nameS [97, 108, 112, 104, 97] = bothS cUP cLO from rfl]
    congr 1
    simp only [has_both, hu, hl, Bool.or_eq_true, Bool.and_eq_true, decide_eq_true_eq]
  · rw [inS_digit, show nameS [100, 105, 103, 105, 116] = cDI from rfl]
    congr 1
    simp only [hd, Bool.and_eq_true, decide_eq_true_eq]
  · rw [inS_alnum, show nameS [97, 108, 110, 117, 109] = cAL from rfl]
    congr 1
    simp only [ha, hu, hl, hd, Bool.or_eq_true, Bool.and_eq_true, decide_eq_true_eq]
    exact propext ⟨fun h => by omega, fun h => by omega⟩
  · rw [inS_upper, show nameS [117, 112, 112, 101, 114] = cUP from rfl]
    congr 1
    simp only [hu, Bool.and_eq_true, decide_eq_true_eq]
  · rw [inS_lower, show nameS [108, 111, 119, 101, 114] = cLO from rfl]
    congr 1
    simp only [hl, Bool.and_eq_true, decide_eq_true_eq]
  · rw [inS_space, show nameS [115, 112, 97, 99, 101] = withS (withS noS 9 13) 32 32 from rfl]
    congr 1
    simp only [has_with, has_no, Bool.false_or, Bool.or_eq_true, Bool.and_eq_true, decide_eq_true_eq]
  · rw [inS_blank, show nameS [98, 108, 97, 110, 107] = withS (withS noS 9 9) 32 32 from rfl]
    congr 1
    simp only [has_with, has_no, Bool.false_or, Bool.or_eq_true, Bool.and_eq_true, decide_eq_true_eq]
  · rw [inS_punct, show nameS [112, 117, 110, 99, 116] = notS (bothS (notS cGR) cAL) from rfl]
    congr 1
    rw [has_not, has_both, has_not, ha, hu, hl, hd, hg]
    simp only [Bool.not_eq_true', Bool.or_eq_false_iff, Bool.not_eq_false', Bool.and_eq_true, Bool.and_eq_false_iff, decide_eq_true_eq, decide_eq_false_iff_not]
    exact propext ⟨fun h => by omega, fun h => by omega⟩
  · rw [inS_print, show nameS [112, 114, 105, 110, 116] = withS cGR 32 32 from rfl]
    congr 1
    simp only [has_with, hg, Bool.or_eq_true, Bool.and_eq_true, decide_eq_true_eq]
    exact propext ⟨fun h => by omega, fun h => by omega⟩
  · rw [inS_graph, show nameS [103, 114, 97, 112, 104] = cGR from rfl]
    congr 1
    simp only [hg, Bool.and_eq_true, decide_eq_true_eq]
  · rw [inS_cntrl, show nameS [99, 110, 116, 114, 108] = withS (withS noS 0 31) 127 127 from rfl]
    congr 1
    simp only [has_with, has_no, Bool.false_or, Bool.or_eq_true, Bool.and_eq_true, decide_eq_true_eq]
  · rw [inS_xdigit, show nameS [120, 100, 105, 103, 105, 116] = withS (withS cDI 65 70) 97 102 from rfl]
    congr 1
    simp only [has_with, hd, Bool.or_eq_true, Bool.and_eq_true, decide_eq_true_eq]
    exact propext ⟨fun h => by omega, fun h => by omega⟩

set_option maxRecDepth 100000 in
theorem named2_is (name : ByteArray) (w : World) : Calls Try.prog 55 #[.string name] w fun e w' => e = .returned (.tuple #[setV (nameS name.toList), .bool (isName name.toList)]) ∧ Below w.heap.size w w' := by
  have HNM := Lib.hid (named_is name)
  have hsm := named_some name.toList
  generalize nameS name.toList = S at *
  generalize isName name.toList = b at *
  unfold setV at *
  go_enter Try.func55, Try.ntmps55
  go_wp2_with fail
  go_at_call 60
  refine (HNM.out _).mono ?_
  rintro e w1 ⟨rfl, hb1⟩
  have hz := ((BoxF.zero w 27).below hb1 (by simp))
  have l1 : w.heap.size < w1.heap.size := Nat.lt_of_lt_of_le (by simp) hb1.size
  have HB1 := Lib.hid (((Below.refl _ w).alloc (Nat.le_refl _) _).trans (hb1.mono (by simp)))
  clear hb1
  go_upto_region 2 with fail
  obtain ⟨wr, hwr⟩ : ∃ wr, wr = w1.alloc (.cells #[.int .u64 (S 0), .int .u64 (S 1), .int .u64 (S 2), .int .u64 (S 3)] 27) := ⟨_, rfl⟩
  rw [← hwr]
  have hzr : BoxF wr w.heap.size noS := by rw [hwr]; exact hz.alloc l1 _
  have hxs : BoxF wr w1.heap.size S := by rw [hwr]; exact BoxF.new w1 S _
  have HBR := Lib.hid (show Below w.heap.size w wr by rw [hwr]; exact HB1.out.alloc HB1.out.size _)
  have hne : w.heap.size ≠ w1.heap.size := by omega
  clear hwr hz l1
  obtain ⟨⟨z0, z1, z2, z3⟩, g0, g1, g2, g3⟩ := hzr
  obtain ⟨⟨s0, s1, s2, s3⟩, f0, f1, f2, f3⟩ := hxs
  have EW := eq_words S noS
  rw [hsm] at EW
  simp only [noS, Int.cast_ofNat_Int] at EW
  go_region
  clear EW
  go_wp2_with fail
  refine bodyPost_ret (v := .tuple #[setV S, .bool b]) (by simp [results, Try.results55, go_sem, setV, z0, z1, z2, z3]) rfl ⟨rfl, ?_⟩
  exact (below_st4 HBR.out (Nat.le_refl _) S).drew
end Go.Proofs.Ytbehbbmhkkidfaa

/-
  The document's with: a rising row of texts and one more, if it is none of them. Condition: fewer than a million texts.
-/
import Derived.Test.YthlkmlphbepnpaaPg20
import Derived.Sort.Walk0
import Derived.Deep.QuietTactic
import Derived.BigQuiet
namespace Go.Proofs.Ythlkmlphbepnpaa
open Go.RowKit Go.Deep

theorem tx_list (b : List UInt8) : (txt b).toList = b := by rw [ByteArray.toList_eq]; rfl
theorem up_ne {a b : List UInt8} (h : ¬ a < b) (hn : a ≠ b) : b < a := by
  by_cases hc : b < a
  · exact hc
  · exact absurd (List.le_antisymm (List.not_lt.1 hc) (List.not_lt.1 h)) hn
/-- The row with s at the place k. -/
def putIn (L : List (List UInt8)) (s : List UInt8) (k : Nat) : List (List UInt8) := L.take k ++ s :: L.drop k
theorem putIn_len (L : List (List UInt8)) (s : List UInt8) {k : Nat} (h : k ≤ L.length) : (putIn L s k).length = L.length + 1 := by simp [putIn]; omega
theorem putIn_mem (L : List (List UInt8)) (s : List UInt8) (k : Nat) (x : List UInt8) : x ∈ putIn L s k ↔ x ∈ L ∨ x = s := by
  unfold putIn
  rw [List.mem_append, List.mem_cons]
  have h := List.take_append_drop k L
  constructor
  · rintro (h1 | rfl | h1)
    · exact .inl (List.mem_of_mem_take h1)
    · exact .inr rfl
    · exact .inl (List.mem_of_mem_drop h1)
  · rintro (h1 | rfl)
    · rw [← h, List.mem_append] at h1
      rcases h1 with h1 | h1
      · exact .inl h1
      · exact .inr (.inr h1)
    · exact .inr (.inl rfl)
theorem putIn_at (L : List (List UInt8)) (s : List UInt8) {k : Nat} (h : k ≤ L.length) : (putIn L s k)[k]? = some s := by
  unfold putIn
  rw [List.getElem?_append_right (by simp; omega), List.length_take, Nat.min_eq_left h, Nat.sub_self]
  rfl
theorem putIn_before (L : List (List UInt8)) (s : List UInt8) {k j : Nat} (h : j < k) (hk : k ≤ L.length) : (putIn L s k)[j]? = L[j]? := by
  unfold putIn
  rw [List.getElem?_append_left (by simp; omega), List.getElem?_take, if_pos h]
theorem putIn_step (L : List (List UInt8)) (s : List UInt8) {k : Nat} {y : List UInt8} (hy : L[k]? = some y) : ((putIn L s (k + 1)).set (k + 1) y).set k s = putIn L s k := by
  have hk := (List.getElem?_eq_some_iff.1 hy).1
  have h2 : L[k] = y := (List.getElem?_eq_some_iff.1 hy).2
  have e1 : L.take (k + 1) = L.take k ++ [y] := by rw [List.take_add_one, hy]; rfl
  have e2 : L.drop k = y :: L.drop (k + 1) := by rw [List.drop_eq_getElem_cons hk, h2]
  have el : (L.take k).length = k := by simp; omega
  unfold putIn
  rw [e1, e2, List.append_assoc]
  have s1 : (L.take k ++ ([y] ++ s :: L.drop (k + 1))).set (k + 1) y = L.take k ++ (y :: y :: L.drop (k + 1)) := by
    rw [List.set_append_right _ _ (by omega), el, Nat.add_sub_cancel_left]
    rfl
  rw [s1, List.set_append_right _ _ (by omega), el, Nat.sub_self]
  rfl
theorem putIn_up {L : List (List UInt8)} {s : List UInt8} {k : Nat} (hkl : k ≤ L.length) (hL : L.Pairwise (· < ·)) (hs : s ∉ L) (hgt : ∀ x ∈ L.drop k, s < x) (hlt : ∀ y, 0 < k → L[k - 1]? = some y → ¬ s < y) : (putIn L s k).Pairwise (· < ·) := by
  have hsplit := List.take_append_drop k L
  have hL2 := hL
  rw [← hsplit, List.pairwise_append] at hL2
  obtain ⟨h1, h2, h3⟩ := hL2
  refine List.pairwise_append.2 ⟨h1, List.pairwise_cons.2 ⟨hgt, h2⟩, fun x hx z hz => ?_⟩
  rcases List.mem_cons.1 hz with rfl | hz
  · obtain ⟨j, hj, rfl⟩ := List.getElem_of_mem hx
    have hjk : j < k := by have := List.length_take_le k L; omega
    have hjl : j < L.length := by rw [List.length_take] at hj; omega
    rw [List.getElem_take]
    have hk1 : k - 1 < L.length := by omega
    have h5 := hlt (L[k - 1]) (by omega) (List.getElem?_eq_getElem hk1)
    have h6 : L[k - 1] < z := up_ne h5 (fun e => hs (by rw [e]; exact List.getElem_mem hk1))
    rcases Nat.lt_or_eq_of_le (show j ≤ k - 1 by omega) with h7 | h7
    · exact List.lt_trans (List.pairwise_iff_getElem.1 hL j (k - 1) hjl hk1 h7) h6
    · subst h7
      exact h6
  · exact h3 x hx z hz
/-- An empty row, laid anew. -/
theorem wpList_lit_none {ops : Array Oper} {rest : List Oper} {o : Oper} {a : Act} {w : World} {Q : Exit → Act → World → Prop} (hg : o.guard = none) (ho : o.op = .buildSlice 34 0 #[])
    (h : ∀ v w', OwnS w' w.heap.size v [] → Below w.heap.size w w' → wpList Try.prog ops Q rest (a.put o.dst v) w') : wpList Try.prog ops Q (o :: rest) a w := by
  refine wpList_plain hg fun K hK => ?_
  unfold Oper.wp execOp
  have hrun : (Instr.buildSlice 34 0 #[]).run Try.prog w = .ok (.slice (some ⟨w.heap.size, 0, none⟩) 0 0) (w.alloc (.cells #[] 9)) := by kernel_rfl
  have hp : (#[] : Array (Nat × Operand)).map (fun (i, x) => (i, a.eval x)) = #[] := by simp
  simp only [ho, hp, Sem.run_bind, hrun, Result.andThen_ok, Sem.run_pure]
  exact hK _ _ (h _ _ (World.ownsRow_lit w #[] 0 (Nat.le_refl _) (Nat.zero_le _) rfl) (bW w _))
/-- What with answers. -/
def WithAns (L : List (List UInt8)) (s : List UInt8) (w : World) (e : Ending) (w' : World) : Prop := Below w.heap.size w w' ∧ ∃ A c F, e = .returned (.slice A (F : List (List UInt8)).length c) ∧ RawAt w' A (sV F) ∧ F.Pairwise (· < ·) ∧ F.length ≤ L.length + 1 ∧ ∀ x, x ∈ F ↔ x ∈ L ∨ x = s
/-- What holds where a round of the insertion begins. -/
structure InJ (L : List (List UInt8)) (s : List UInt8) (w : World) (g cap n1 : Nat) (wr : World) (k : Nat) : Prop where
  le : k ≤ L.length
  len : n1 = L.length + 1
  own : wr.ownsRow w.heap.size 9 1 (.slice (some ⟨g, 0, none⟩) n1 cap) n1 (sV (putIn L s k))
  gt : ∀ x ∈ L.drop k, s < x
  bel : Below w.heap.size w wr
theorem InJ.cell {L : List (List UInt8)} {s : List UInt8} {w wr : World} {g cap n1 k : Nat} (h : InJ L s w g cap n1 wr k) {j : Nat} {x : List UInt8} (hx : (putIn L s k)[j]? = some x) : wr.cell? ⟨g, j, none⟩ = some (.string (txt x)) ∧ wr.frozen? ⟨g, j, none⟩ = false := by
  have hj : j < n1 := by
    have := (List.getElem?_eq_some_iff.1 hx).1
    rw [putIn_len _ _ h.le] at this
    rw [h.len]
    exact this
  refine ⟨?_, World.ownsRow.frozenAt h.own j⟩
  rw [World.ownsRow.cellAt h.own j (by omega)]
  simp [sV, hx]
theorem InJ.step {L : List (List UInt8)} {s y : List UInt8} {w wr : World} {g cap n1 q : Nat} (h : InJ L s w g cap n1 wr (q + 1)) (hy : L[q]? = some y) (hlt : s < y) :
    InJ L s w g cap n1 ((wr.setCell ⟨g, q + 1, none⟩ (.string (txt y))).setCell ⟨g, q, none⟩ (.string (txt s))) q := by
  obtain ⟨o1, g1⟩ := World.ownsRow.stored h.own (q + 1) (.string (txt y))
  obtain ⟨o2, g2⟩ := World.ownsRow.stored o1 q (.string (txt s))
  have hB := (World.ownsRow.lt h.own g rfl).1
  have hk := (List.getElem?_eq_some_iff.1 hy).1
  refine ⟨by omega, h.len, ?_, fun x hx => ?_, ?_⟩
  · rw [← putIn_step L s hy]
    have e : sV (((putIn L s (q + 1)).set (q + 1) y).set q s) = ((sV (putIn L s (q + 1))).set (q + 1) (.string (txt y))).set q (.string (txt s)) := by
      simp [sV, List.map_set]
    rw [e]
    exact o2
  · rw [List.drop_eq_getElem_cons hk] at hx
    rcases List.mem_cons.1 hx with rfl | hx
    · rwa [(List.getElem?_eq_some_iff.1 hy).2]
    · exact h.gt x hx
  · refine (h.bel.trans ((Turned.of_grown (S := fun k => k = g) g1 (fun k e => by injection e with e; exact e.symm)).below h.bel.size fun k e => by rw [e]; exact hB)).trans ((Turned.of_grown (S := fun k => k = g) g2 (fun k e => by injection e with e; exact e.symm)).below (Nat.le_trans h.bel.size ?_) fun k e => by rw [e]; exact hB)
    simp
theorem InJ.drew {L : List (List UInt8)} {s : List UInt8} {w wr : World} {g cap n1 k : Nat} (h : InJ L s w g cap n1 wr k) (n : Nat) : InJ L s w g cap n1 (wr.drewN n) k :=
  ⟨h.le, h.len, h.own, h.gt, ⟨h.bel.os, h.bel.tape, h.bel.output, h.bel.size, h.bel.block⟩⟩
theorem InJ.done {L : List (List UInt8)} {s : List UInt8} {w wr : World} {g cap n1 k : Nat} (h : InJ L s w g cap n1 wr k) (hP : L.Pairwise (· < ·)) (hN : s ∉ L) (hlt : ∀ y, 0 < k → L[k - 1]? = some y → ¬ s < y) : WithAns L s w (.returned (.slice (some ⟨g, 0, none⟩) n1 cap)) wr := by
  refine ⟨h.bel, some ⟨g, 0, none⟩, cap, putIn L s k, ?_, ?_, putIn_up h.le hP hN h.gt hlt, ?_, putIn_mem L s k⟩
  · rw [putIn_len _ _ h.le, h.len]
  · obtain ⟨A2, c2, e, _, hraw, _⟩ := own_form h.own
    injection e with e1 e2 e3
    rw [e1]
    exact hraw
  · rw [putIn_len _ _ h.le]
    exact Nat.le_refl _
set_option maxRecDepth 100000 in
set_option maxHeartbeats 4000000 in
theorem with_is {L : List (List UInt8)} {b : List UInt8} {cl : Nat} {A : Option Addr} {w : World} (hr : RawAt w A (sV L)) (hl : L.length ≤ 1048576) (hp : L.Pairwise (· < ·)) :
    Calls Try.prog 27 #[.slice A L.length cl, .string (txt b)] w (WithAns L b w) := by
  unfold WithAns
  have HR := Lib.hid hr
  have HL := Lib.hid hl
  have HP := Lib.hid hp
  have HS := Lib.hid (show (0 : Nat) ≤ L.length ∧ ∀ (j : Nat), j < 0 → L[j]? ≠ some b from ⟨Nat.zero_le _, fun j hj => absurd hj (Nat.not_lt_zero j)⟩)
  clear hr hl hp
  go_enter Try.func27, Try.ntmps27
  go_wp2_with fail
  go_loopw [5] (fun iv wz => ∃ m : Nat, iv = .int .i64 (m : Int) ∧ Hid (m ≤ L.length ∧ ∀ j, j < m → L[j]? ≠ some b) ∧ wz = w) (fun iv _ => L.length + 1 - (intOf iv).toNat)
  case atStart => exact ⟨0, rfl, HS, rfl⟩
  case round =>
    clear HS
    obtain ⟨m, rfl, HJ, hwe⟩ := hrel
    replace hwe := hwe.symm
    subst hwe
    have hle := HJ.out.1
    by_cases hm : m < L.length
    case pos =>
      obtain ⟨y, hy⟩ : ∃ y, L[m]? = some y := ⟨L[m], by simp [hm]⟩
      obtain ⟨g, o, rfl, hcell⟩ := HR.out.cell (i := m) (v := .string (txt y)) (by simp [sV, hy])
      have hli : (m : Int) < (L.length : Int) := by omega
      have hd : decide ((m : Int) < (L.length : Int)) = true := decide_eq_true hli
      have hdn : decide (m < L.length) = true := decide_eq_true hm
      have hml : m ≤ 1048576 := by have := HL.out; omega
      have hadd : IntKind.i64.wrap ((m : Int) + 1) = ((m + 1 : Nat) : Int) := by rw [IntWalk.i64_in _ (by omega)]; omega
      obtain ⟨m1, hm1⟩ : ∃ m1, m1 = m + 1 := ⟨_, rfl⟩
      rw [← hm1] at hadd
      have HM := Lib.hid (And.intro hm1 hm)
      by_cases he : y = b
      · have ge : ((txt y).toList == (txt b).toList) = true := by rw [he]; simp
        have HIN := Lib.hid (show b ∈ L by rw [← he]; exact List.mem_of_getElem? hy)
        clear hle hm hml hm1 hadd he hy
        go_wp2_with fail
        go_ret
        exact ⟨Below.refl _ _, _, _, L, rfl, HR.out, HP.out, Nat.le_succ _, fun x => ⟨.inl, fun h => h.elim id fun e => by rw [e]; exact HIN.out⟩⟩
      · have ge : ((txt y).toList == (txt b).toList) = false := by
          rw [tx_list, tx_list, beq_eq_false_iff_ne]
          exact he
        have HN := Lib.hid (show m1 ≤ L.length ∧ ∀ j, j < m1 → L[j]? ≠ some b from ⟨by omega, fun j hj => by
          rcases Nat.lt_or_ge j m with h1 | h1
          · exact HJ.out.2 j h1
          · obtain rfl : j = m := by omega
            rw [hy]
            exact fun e => he (by injection e)⟩)
        clear hle hm hml hm1 he hy
        go_wp2_with fail
        go_roundw
        case rel => exact ⟨m1, rfl, HN, trivial⟩
        case measure => have := HM.out; simp [intOf]; omega
    case neg =>
      have hd : decide ((m : Int) < (L.length : Int)) = false := decide_eq_false (by omega)
      have hdn : decide (m < L.length) = false := decide_eq_false hm
      have hll : (L.length : Int) ≤ (m : Int) := by omega
      have HNO := Lib.hid (show b ∉ L from fun h => by
        obtain ⟨j, hj, he⟩ := List.getElem_of_mem h
        exact HJ.out.2 j (by omega) (by rw [List.getElem?_eq_getElem hj, he]))
      clear hle hm HJ
      go_upto_region 6 with fail
      refine wp_region_lit ?_
      refine wpList_lit_none rfl rfl ?_
      intro v0 w0 ho0 hb0
      have HO0 := Lib.hid (show w0.ownsRow w.heap.size 9 1 v0 0 [] from ho0)
      have HN0 := Lib.hid (show 0 + L.length ≤ 1099511627776 by have := HL.out; omega)
      have HB0 := Lib.hid hb0
      have HR0 := Lib.hid (HR.out.below hb0)
      clear ho0 hb0
      go_wp2_with (refine wpList_append_raw 24 (sV L) elem_str HO0.out HR0.out (by simp [sV]) (by intro u hu; obtain ⟨x, _, rfl⟩ := List.mem_map.1 hu; rfl) rfl rfl HN0.out HB0.out.size ?_)
      intro v1 w1 hv1 ht1 hk1
      rw [Nat.zero_add, List.nil_append] at hv1
      have HB1 := Lib.hid (HB0.out.trans (ht1.below HB0.out.size fun k hk => (World.ownsRow.lt HO0.out k hk).1))
      have HO1 := Lib.hid ((show OwnS w1 w.heap.size v1 L from hv1).below (bW w1 (.cells #[.string (txt b)] 9)))
      have HBL := Lib.hid (bW w1 (.cells #[.string (txt b)] 9))
      have HRL := Lib.hid (show RawAt (w1.alloc (.cells #[.string (txt b)] 9)) (some ⟨w1.heap.size, 0, none⟩) [.string (txt b)] from raw_new w1 [.string (txt b)] 9)
      have HNN := Lib.hid (show L.length + 1 ≤ 1099511627776 ∧ w.heap.size ≤ (w1.alloc (.cells #[.string (txt b)] 9)).heap.size by
        have h2 := HL.out
        have h3 := HB1.out.size
        rw [World.size_alloc]
        omega)
      clear hv1 ht1 hk1
      go_wp2_with (refine wpList_append_raw 27 [.string (txt b)] elem_str HO1.out HRL.out rfl (by simp [Value.oneCell']) rfl rfl HNN.out.1 HNN.out.2 ?_)
      intro v2 w2 hv2 ht2 hk2
      have HB2 := Lib.hid ((HB1.out.trans (HBL.out.mono HB1.out.size)).trans (ht2.below HNN.out.2 fun k hk => (World.ownsRow.lt HO1.out k hk).1))
      obtain ⟨g, cap, rfl⟩ : ∃ g cap, v2 = .slice (some ⟨g, 0, none⟩) (L.length + 1) cap := by
        rcases hv2.2 with ⟨_, h0⟩ | ⟨g, cap, cur, e, _⟩
        · exact absurd h0 (by omega)
        · exact ⟨g, cap, e⟩
      have hin : InJ L b w g cap (L.length + 1) w2 L.length := ⟨Nat.le_refl _, rfl, by
        have e : sV (putIn L b L.length) = sV L ++ [.string (txt b)] := by simp [putIn, sV]
        rw [e]
        exact hv2, fun x hx => by simp at hx, HB2.out⟩
      have hsub : IntKind.i64.wrap (((L.length + 1 : Nat) : Int) - 1) = (L.length : Int) := by rw [IntWalk.i64_in _ (by have := HL.out; omega)]; omega
      obtain ⟨n1, hn1⟩ : ∃ n1, n1 = L.length + 1 := ⟨_, rfl⟩
      rw [← hn1] at hin hsub ⊢
      have HIN := Lib.hid hin
      clear hv2 ht2 hk2 hin hn1
      go_wp2_with fail
      go_loopw [7, 8] (fun kv _ wz => ∃ k : Nat, kv = .int .i64 (k : Int) ∧ Hid (InJ L b w g cap n1 wz k)) (fun kv _ _ => (intOf kv).toNat)
      case atStart => exact ⟨L.length, rfl, HIN⟩
      case round =>
        clear HIN HB0 HB1 HB2 HO0 HO1 HRL HNN HBL HR0
        obtain ⟨k, rfl, HJ⟩ := hrel
        rename_i wr
        rcases Nat.eq_zero_or_pos k with rfl | hk
        · have hd0 : decide ((0 : Int) < ((0 : Nat) : Int)) = false := by decide
          have HE := Lib.hid (show ∀ n, WithAns L b w (.returned (.slice (some ⟨g, 0, none⟩) n1 cap)) (wr.drewN n) from fun n => (HJ.out.drew n).done HP.out HNO.out (fun y h => absurd h (Nat.lt_irrefl 0)))
          unfold WithAns at HE
          go_upto_region 8 with fail
          go_quiet (fail)
          go_wp2_with fail
          go_ret
          exact HE.out _
        obtain ⟨q, rfl⟩ : ∃ q, k = q + 1 := ⟨k - 1, by omega⟩
        have hq := HJ.out.le
        obtain ⟨y, hy⟩ : ∃ y, L[q]? = some y := ⟨L[q], by simp⟩
        obtain ⟨c1, _⟩ := HJ.out.cell (putIn_at L b hq)
        obtain ⟨c2, _⟩ := HJ.out.cell ((putIn_before L b (Nat.lt_succ_self q) hq).trans hy)
        have hlen := HJ.out.len
        have hLL := HL.out
        have hwr : IntKind.i64.wrap (((q + 1 : Nat) : Int) - 1) = (q : Int) := by rw [IntWalk.i64_in _ (by omega)]; omega
        have HST := Lib.hid (fun n h => (HJ.out.drew n).step hy h)
        have HCC := Lib.hid (fun n => And.intro ((HJ.out.drew n).cell (putIn_at L b hq)) ((HJ.out.drew n).cell ((putIn_before L b (Nat.lt_succ_self q) hq).trans hy)))
        have HE := Lib.hid (show ¬ b < y → ∀ n, WithAns L b w (.returned (.slice (some ⟨g, 0, none⟩) n1 cap)) (wr.drewN n) from fun hb n => (HJ.out.drew n).done HP.out HNO.out fun z _ hz => by
          rw [Nat.add_sub_cancel, hy] at hz
          injection hz with hz
          rw [← hz]
          exact hb)
        unfold WithAns at HE
        obtain ⟨q1, hq1⟩ : ∃ q1, q1 = q + 1 := ⟨_, rfl⟩
        rw [← hq1] at c1 hwr HST HCC ⊢
        have hd1 : decide ((0 : Int) < (q1 : Int)) = true := decide_eq_true (by omega)
        have hd1n : decide (0 < q1) = true := decide_eq_true (by omega)
        have hn1 : (q1 : Int) < (n1 : Int) := by omega
        have hn2 : (q : Int) < (n1 : Int) := by omega
        have hm1 : q1 < n1 := by omega
        have hm2 : q < n1 := by omega
        have HQ := Lib.hid hq1
        clear hy hk hq hlen hLL hq1
        by_cases hlt : b < y
        · have gl : Op.bytesLess (txt b).toList (txt y).toList = true := by rw [tx_list, tx_list, bytesLess_eq, decide_eq_true hlt]
          replace HST := Lib.hid (fun n => HST.out n hlt)
          clear hlt HE
          go_upto_region 8 with fail
          go_quiet (fail)
          have HN := Lib.hid (HST.out nq)
          obtain ⟨⟨c1, f1⟩, c2, f2⟩ := HCC.out nq
          obtain ⟨wq, hwq⟩ : ∃ wq, wq = wr.drewN nq := ⟨_, rfl⟩
          rw [← hwq] at HN c1 f1 c2 f2 ⊢
          have hsep : ¬ (⟨g, q1, none⟩ : Addr) = ⟨g, q, none⟩ := fun e => by
            injection e with _ e
            have := HQ.out
            omega
          have f3 : (wq.setCell ⟨g, q1, none⟩ (.string (txt y))).frozen? ⟨g, q, none⟩ = false := (World.frozen?_setCell _ _ _ _).trans f2
          have c3 : (wq.setCell ⟨g, q1, none⟩ (.string (txt y))).cell? ⟨g, q, none⟩ = some (.string (txt y)) := (World.cell?_setCell_other _ _ _ _ (by first | exact hsep | exact fun e => hsep e.symm)).trans c2
          clear hwq hsep
          go_wp2_with fail
          go_roundw
          case rel => exact ⟨q, rfl, HN⟩
          case measure => have := HQ.out; simp [intOf]; omega
        · have gl : Op.bytesLess (txt b).toList (txt y).toList = false := by rw [tx_list, tx_list, bytesLess_eq, decide_eq_false hlt]
          replace HE := Lib.hid (HE.out hlt)
          clear HST hlt
          go_upto_region 8 with fail
          go_quiet (fail)
          go_wp2_with fail
          go_ret
          exact HE.out _
end Go.Proofs.Ythlkmlphbepnpaa

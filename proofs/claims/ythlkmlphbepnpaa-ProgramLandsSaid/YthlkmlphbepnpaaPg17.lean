/-
  ProgramLands, walked: jumps land. No condition.
-/
import Derived.Test.YthlkmlphbepnpaaPg15
namespace Go.Proofs.Ythlkmlphbepnpaa
open Go.RowKit Go.Deep

/-- The ends met so far, in a row of the call's own: each closes a brace ahead. -/
structure EndJ (cs : List CM) (n B : Nat) (w2 wz : World) (i : Nat) (v : Value) (E : List Nat) : Prop where
  le : i ≤ n
  own : wz.ownsRow B 3 1 v E.length (E.map intV)
  ends : ∀ j ∈ E, ∃ b, b < i ∧ Closes (cN cs) b j
  few : E.length ≤ i
  bel : Below w2.heap.size w2 wz
theorem EndJ.next {cs : List CM} {n B : Nat} {w2 wz wz' : World} {i : Nat} {v : Value} {E : List Nat} (h : EndJ cs n B w2 wz i v E) (hi : i < n) (ho : wz'.ownsRow B 3 1 v E.length (E.map intV)) (hb : Below w2.heap.size w2 wz') : EndJ cs n B w2 wz' (i + 1) v E :=
  ⟨hi, ho, fun j hj => by obtain ⟨b, h1, h2⟩ := h.ends j hj; exact ⟨b, by omega, h2⟩, by have := h.few; omega, hb⟩
theorem EndJ.put {cs : List CM} {n B : Nat} {w2 wz wz' : World} {i j : Nat} {v v' : Value} {E : List Nat} (h : EndJ cs n B w2 wz i v E) (hi : i < n) (hc : Closes (cN cs) i j) (ho : wz'.ownsRow B 3 1 v' (E.length + 1) (E.map intV ++ [intV j])) (hb : Below w2.heap.size w2 wz') : EndJ cs n B w2 wz' (i + 1) v' (E ++ [j]) :=
  ⟨hi, by rw [List.length_append, List.map_append]; exact ho, fun k hk => by
    rcases List.mem_append.1 hk with hk | hk
    · obtain ⟨b, h1, h2⟩ := h.ends k hk; exact ⟨b, by omega, h2⟩
    · rw [List.mem_singleton] at hk
      exact ⟨i, by omega, by rw [hk]; exact hc⟩, by rw [List.length_append]; have := h.few; simp; omega, hb⟩
theorem EndJ.apart {cs : List CM} {n B : Nat} {w2 wz : World} {i j : Nat} {v : Value} {E : List Nat} (h : EndJ cs n B w2 wz i v E) (hc : Closes (cN cs) i j) {k e : Nat} (hk : E[k]? = some e) : e ≠ j := by
  intro he
  subst he
  obtain ⟨b, h1, h2⟩ := h.ends e (List.mem_of_getElem? hk)
  have := closes_one h2 hc
  omega
theorem EndJ.cell {cs : List CM} {n B : Nat} {w2 wz : World} {i : Nat} {v : Value} {E : List Nat} (h : EndJ cs n B w2 wz i v E) : ∃ A c, v = .slice A E.length c ∧ ∀ (k e : Nat), E[k]? = some e → ∃ g o, A = some ⟨g, o, none⟩ ∧ wz.cell? ⟨g, o + k, none⟩ = some (.int .i64 (e : Int)) := by
  obtain ⟨A, c, e, _, hr, _⟩ := own_form h.own
  refine ⟨A, c, e, fun k x hx => ?_⟩
  exact hr.cell (v := intV x) (by rw [List.getElem?_map, hx]; rfl)
theorem cplx_zero (w : World) : (binOp .neq 28 (.complex .f64 0 0) (.complex .f64 0 0)).run Try.prog w = .ok (.bool false) w := by kernel_rfl
theorem text_empty {t : ByteArray} (h : t ≠ ⟨#[]⟩) : t.toList.isEmpty = false := by
  cases hx : t.toList with
  | nil =>
    exfalso
    apply h
    have : t.data.toList = [] := by rw [← ByteArray.toList_eq]; exact hx
    rw [← txt_of t, this]
    rfl
  | cons => rfl
set_option maxRecDepth 100000 in
set_option maxHeartbeats 8000000 in
theorem lands_is {l : List BM} {cl : Nat} {A : Option Addr} {w : World} (hr : RawAt w A (bmV l)) :
    Calls Try.prog 4 #[.slice A l.length cl] w (Alv w) := by
  have HC := Lib.hid (commands_is (cl := cl) hr)
  have HA := Lib.hid alive_is
  have hcz := cplx_zero
  clear hr
  unfold Alv at *
  go_enter Try.func4, Try.ntmps4
  go_wp2_with fail
  go_at_call 8
  with_reducible refine HC.out.mono ?_
  rintro e w1 ⟨hb1, h⟩
  have HB1 := Lib.hid hb1
  clear hb1
  rcases h with rfl | ⟨hl, hsm, v, hown, rfl⟩
  · go_wp2_with fail
    go_at_call 9
    with_reducible refine (HA.out w1).mono ?_
    rintro e w3 ⟨rfl, hb3⟩
    have HB3 := Lib.hid (HB1.out.trans (hb3.mono HB1.out.size))
    clear hb3
    go_wp2_with fail
    go_ret
    exact ⟨rfl, HB3.out⟩
  obtain ⟨cs, hcs⟩ : ∃ cs, cs = l.map BM.cm := ⟨_, rfl⟩
  rw [← hcs] at hown
  have HT := Lib.hid (show ∀ c ∈ cs, c.text.size ≤ 1048576 by rw [hcs]; exact small_text hsm)
  have HN := Lib.hid (show cs.length ≤ 220 by rw [hcs, List.length_map]; exact hl)
  obtain ⟨A2, c2, rfl, hraw⟩ := hown.raw
  have HR := Lib.hid hraw
  have HCO := Lib.hid ((compile_is (cl := c2) hraw HT.out).mono fun e w' h => comp_two h)
  clear hl hsm hcs hown hraw
  go_wp2_with fail
  go_at_call 10
  with_reducible refine HCO.out.mono ?_
  rintro e w2 ⟨hb2, h⟩
  have HB2 := Lib.hid (HB1.out.trans (hb2.mono HB1.out.size))
  have HR2 := Lib.hid (HR.out.below hb2)
  clear hb2
  rcases h with ⟨re, im, x, rfl, hx⟩ | ⟨h200, J, g, hj, hpr, rfl⟩
  · have gx : (x == 0) = false := by rw [beq_eq_false_iff_ne]; exact hx
    have gx2 : (x != 0) = true := by rw [bne_iff_ne]; exact hx
    clear hx
    go_wp2_with fail
    go_at_call 9
    with_reducible refine (HA.out w2).mono ?_
    rintro e w3 ⟨rfl, hb3⟩
    have HB3 := Lib.hid (HB2.out.trans (hb3.mono HB2.out.size))
    clear hb3
    go_wp2_with fail
    go_ret
    exact ⟨rfl, HB3.out⟩
  have HJ := Lib.hid hj
  have HP := Lib.hid (show PrM cs J g cs.length A2 w2 from ⟨HR2.out, hpr⟩)
  have HN2 := Lib.hid h200
  obtain ⟨n, hn⟩ : ∃ n, n = cs.length := ⟨_, rfl⟩
  rw [← hn] at HJ HP HN2 ⊢
  have HNE := Lib.hid hn
  clear hj hpr h200 hn
  have hn2 := HN2.out
  have gnn : ((n : Int) != (n : Int)) = false := by simp
  go_wp2_with fail
  go_loopw [8, 9, 10, 11] (fun ev iv _ _ wz => ∃ (i : Nat) (V : Value) (E : List Nat), V = ev ∧ iv = .int .i64 (i : Int) ∧ Hid (EndJ cs n w2.heap.size w2 wz i V E)) (fun _ iv _ _ _ => n + 1 - (intOf iv).toNat)
  case atStart => exact ⟨0, _, [], rfl, rfl, Lib.hid ⟨Nat.zero_le _, ⟨rfl, .inl ⟨rfl, rfl⟩⟩, fun j hj => by simp at hj, Nat.le_refl _, Below.refl _ _⟩⟩
  case round =>
    clear gnn
    obtain ⟨i, ev, E, hV, rfl, HI⟩ := hrel
    subst hV
    have hle := HI.out.le
    by_cases hi : i < n
    case neg =>
      have hd : decide ((i : Int) < (n : Int)) = false := decide_eq_false (by omega)
      have hdn : decide (i < n) = false := decide_eq_false hi
      have hll : (n : Int) ≤ (i : Int) := by omega
      have HB3 := Lib.hid (HB2.out.trans (HI.out.bel.mono HB2.out.size))
      clear hle hi
      go_wp2_with fail
      go_at_call 9
      with_reducible refine (HA.out _).mono ?_
      rintro e w4 ⟨rfl, hb4⟩
      have HB4 := Lib.hid (HB3.out.trans (hb4.mono HB3.out.size))
      clear hb4
      go_wp2_with fail
      go_ret
      exact ⟨rfl, HB4.out⟩
    have hil : (i : Int) < (n : Int) := by omega
    have hd : decide ((i : Int) < (n : Int)) = true := decide_eq_true hil
    have hdn : decide (i < n) = true := decide_eq_true hi
    have hwi : IntKind.i64.wrap ((i : Int) + 1) = ((i + 1 : Nat) : Int) := by rw [IntWalk.i64_in _ (by omega)]; omega
    obtain ⟨i1, hi1⟩ : ∃ i1, i1 = i + 1 := ⟨_, rfl⟩
    rw [← hi1] at hwi
    have HI1 := Lib.hid (And.intro hi1 hi)
    have HPI := Lib.hid (HP.out.stays HI.out.bel)
    obtain ⟨c, hc⟩ : ∃ c, cs[i]? = some c := ⟨cs[i]'(by have := HNE.out; omega), by simp⟩
    have HCC := Lib.hid hc
    obtain ⟨ga, o, rfl, kN, kT⟩ := HPI.out.name hc
    have kJ := HPI.out.jump hi
    have hnm := cN_at hc
    have htx := cT_at hc
    by_cases h1 : c.name = 123
    case pos =>
      have g1 : ((c.name : Int) == 123) = true := by rw [h1]; rfl
      obtain ⟨j, hj1, hj2, hj3, hj4⟩ := HJ.out.opened hi (by rw [hnm]; exact h1)
      obtain ⟨d, hdj⟩ : ∃ d, cs[j]? = some d := ⟨cs[j]'(by have := HNE.out; omega), by simp⟩
      obtain ⟨ga2, o2, he2, kN2, _⟩ := HPI.out.name hdj
      injection he2 with he2
      injection he2 with he2 he3
      subst he2
      subst he3
      have hd125 : d.name = 125 := by rw [← cN_at hdj]; exact hj3.1
      rw [hj4] at kJ
      rw [hd125] at kN2
      have e1 : decide ((j : Int) ≤ (i : Int)) = false := decide_eq_false (by omega)
      have e1n : decide (j ≤ i) = false := decide_eq_false (by omega)
      have e2 : decide ((n : Int) ≤ (j : Int)) = false := decide_eq_false (by omega)
      have e2n : decide (n ≤ j) = false := decide_eq_false (by omega)
      have hjn : (j : Int) < (n : Int) := by omega
      obtain ⟨EA, ec, hev, hcell⟩ := HI.out.cell
      subst hev
      have HCL := Lib.hid hj3
      have HCE := Lib.hid hcell
      clear hc hnm htx h1 hj2 hj3 hj4 hdj hd125 hle hi1 hcell
      go_wp2_with fail
      go_loopw [11] (fun kv wz => ∃ k : Nat, kv = .int .i64 (k : Int) ∧ Hid (k ≤ E.length) ∧ wz = wr) (fun kv _ => E.length + 1 - (intOf kv).toNat)
      case atStart => exact ⟨0, rfl, Lib.hid (Nat.zero_le _), rfl⟩
      case round =>
        obtain ⟨k, rfl, HK, rfl⟩ := hrel
        have hkl := HK.out
        have hfe := HI.out.few
        by_cases hk : k < E.length
        case neg =>
          have q1 : decide ((k : Int) < (E.length : Int)) = false := decide_eq_false (by omega)
          have q1n : decide (k < E.length) = false := decide_eq_false hk
          have hll : (E.length : Int) ≤ (k : Int) := by omega
          have HBB := Lib.hid (bW wr (.cells #[.int .i64 (j : Int)] 3))
          have HV := Lib.hid (show (wr.alloc (.cells #[.int .i64 (j : Int)] 3)).ownsRow w2.heap.size 3 1 (.slice EA E.length ec) E.length (E.map intV) from ownsRow_turned HI.out.own (Turned.of_below (S := fun _ => False) HBB.out) (fun _ _ h => h))
          have HRW := Lib.hid (show RawAt (wr.alloc (.cells #[.int .i64 (j : Int)] 3)) (some ⟨wr.heap.size, 0, none⟩) [intV j] from raw_new wr [intV j] 3)
          have HNN := Lib.hid (show E.length + 1 ≤ 1099511627776 ∧ w2.heap.size ≤ (wr.alloc (.cells #[.int .i64 (j : Int)] 3)).heap.size by
            have h3 := HI.out.bel.size
            rw [World.size_alloc]
            omega)
          clear hk hkl hfe
          go_wp2_with (refine wpList_append_raw 95 [intV j] elem_int HV.out HRW.out rfl (by simp [intV, Value.oneCell']) rfl rfl HNN.out.1 HNN.out.2 ?_)
          intro v' w' hv' ht hk'
          have HF := Lib.hid (show EndJ cs n w2.heap.size w2 w' i1 v' (E ++ [j]) by
            rw [HI1.out.1]
            refine HI.out.put HI1.out.2 HCL.out hv' ?_
            have hb1 : Below w2.heap.size w2 (wr.alloc (.cells #[.int .i64 (j : Int)] 3)) := HI.out.bel.trans (HBB.out.mono HI.out.bel.size)
            exact hb1.trans (ht.below hb1.size fun k hk => (World.ownsRow.lt HV.out k hk).1))
          clear hv' ht hk'
          go_wp2_with fail
          go_roundw
          case rel => exact ⟨i1, v', _, rfl, rfl, HF⟩
          case measure => have := HI1.out; simp [intOf]; omega
        have q1 : decide ((k : Int) < (E.length : Int)) = true := decide_eq_true (by omega)
        have q1n : decide (k < E.length) = true := decide_eq_true hk
        have hki : (k : Int) < (E.length : Int) := by omega
        obtain ⟨e, he⟩ : ∃ e, E[k]? = some e := ⟨E[k], by simp [hk]⟩
        have hne := HI.out.apart HCL.out he
        obtain ⟨ge, oe, rfl, kE⟩ := HCE.out k e he
        have q2 : ((e : Int) == (j : Int)) = false := by rw [beq_eq_false_iff_ne]; omega
        have q2n : (e == j) = false := by rw [beq_eq_false_iff_ne]; exact hne
        have hwk : IntKind.i64.wrap ((k : Int) + 1) = ((k + 1 : Nat) : Int) := by rw [IntWalk.i64_in _ (by omega)]; omega
        obtain ⟨k1, hk1⟩ : ∃ k1, k1 = k + 1 := ⟨_, rfl⟩
        rw [← hk1] at hwk
        have HK1 := Lib.hid (And.intro hk1 hk)
        clear hk hkl hfe he hne hk1
        go_wp2_with fail
        go_roundw
        case rel => exact ⟨k1, rfl, Lib.hid (by have := HK1.out; omega), trivial⟩
        case measure => have := HK1.out; simp [intOf]; omega
    have g1 : ((c.name : Int) == 123) = false := by rw [beq_eq_false_iff_ne]; exact h1
    by_cases hbt : c.name = 98 ∨ c.name = 116
    case neg =>
      have g98 : ((c.name : Int) == 98) = false := by rw [beq_eq_false_iff_ne]; exact fun h => hbt (.inl h)
      have g116 : ((c.name : Int) == 116) = false := by rw [beq_eq_false_iff_ne]; exact fun h => hbt (.inr h)
      have hj0 := HJ.out.other i (by rw [hnm]; exact h1) (by rw [hnm]; exact fun h => hbt (.inl h)) (by rw [hnm]; exact fun h => hbt (.inr h))
      rw [hj0] at kJ
      have HF := Lib.hid (show EndJ cs n w2.heap.size w2 wr i1 ev E by rw [HI1.out.1]; exact HI.out.next HI1.out.2 HI.out.own HI.out.bel)
      clear hc hnm htx h1 hj0 hbt hle hi1
      go_wp2_with fail
      go_roundw
      case rel => exact ⟨i1, ev, E, rfl, rfl, HF⟩
      case measure => have := HI1.out; simp [intOf]; omega
    case pos =>
      have HBT := Lib.hid (show cN cs i = 98 ∨ cN cs i = 116 by rw [hnm]; exact hbt)
      have HF := Lib.hid (show EndJ cs n w2.heap.size w2 wr i1 ev E by rw [HI1.out.1]; exact HI.out.next HI1.out.2 HI.out.own HI.out.bel)
      rcases hbt with hbt | hbt
      · have g98 : ((c.name : Int) == 98) = true := by rw [hbt]; rfl
        clear hbt
        by_cases he : c.text = ⟨#[]⟩
        · have ge : c.text.toList.isEmpty = true := by rw [he, ByteArray.toList_eq]; rfl
          have hjn := HJ.out.top i HI1.out.2 HBT.out (htx.trans he)
          rw [hjn] at kJ
          have gnn : ((n : Int) != (n : Int)) = false := by simp
          clear hc hnm htx h1 he hle hi1 hjn
          go_wp2_with fail
          go_quiet (fail)
          go_wp2_with fail
          go_roundw
          case rel => exact ⟨i1, ev, E, rfl, rfl, Lib.hid ⟨HF.out.le, HF.out.own, HF.out.ends, HF.out.few, ⟨HF.out.bel.os, HF.out.bel.tape, HF.out.bel.output, HF.out.bel.size, HF.out.bel.block⟩⟩⟩
          case measure => have := HI1.out; simp [intOf]; omega
        · have ge := text_empty he
          obtain ⟨k, hk, hk58, hkt, hjk⟩ := HJ.out.label i HI1.out.2 HBT.out (by rw [htx]; exact he)
          obtain ⟨d, hdk⟩ : ∃ d, cs[k]? = some d := ⟨cs[k]'(by have := HNE.out; omega), by simp⟩
          obtain ⟨ga2, o2, he2, kN2, kT2⟩ := HPI.out.name hdk
          injection he2 with he2
          injection he2 with he2 he3
          subst he2
          subst he3
          rw [cN_at hdk] at hk58
          rw [cT_at hdk, htx] at hkt
          rw [hk58] at kN2
          rw [hkt] at kT2
          rw [hjk] at kJ
          have e1 : decide ((k : Int) < 0) = false := decide_eq_false (by omega)
          have e2 : decide ((n : Int) ≤ (k : Int)) = false := decide_eq_false (by omega)
          have e2n : decide (n ≤ k) = false := decide_eq_false (by omega)
          have hkn : (k : Int) < (n : Int) := by omega
          have e3 : (0 : Int) ≤ (k : Int) := by omega
          clear hc hnm htx h1 he hle hi1 hk58 hkt hjk hdk
          go_wp2_with fail
          go_quiet (fail)
          go_wp2_with fail
          go_roundw
          case rel => exact ⟨i1, ev, E, rfl, rfl, Lib.hid ⟨HF.out.le, HF.out.own, HF.out.ends, HF.out.few, ⟨HF.out.bel.os, HF.out.bel.tape, HF.out.bel.output, HF.out.bel.size, HF.out.bel.block⟩⟩⟩
          case measure => have := HI1.out; simp [intOf]; omega
      · have g98 : ((c.name : Int) == 98) = false := by rw [hbt]; rfl
        have g116 : ((c.name : Int) == 116) = true := by rw [hbt]; rfl
        clear hbt
        by_cases he : c.text = ⟨#[]⟩
        · have ge : c.text.toList.isEmpty = true := by rw [he, ByteArray.toList_eq]; rfl
          have hjn := HJ.out.top i HI1.out.2 HBT.out (htx.trans he)
          rw [hjn] at kJ
          have gnn : ((n : Int) != (n : Int)) = false := by simp
          clear hc hnm htx h1 he hle hi1 hjn
          go_wp2_with fail
          go_quiet (fail)
          go_wp2_with fail
          go_roundw
          case rel => exact ⟨i1, ev, E, rfl, rfl, Lib.hid ⟨HF.out.le, HF.out.own, HF.out.ends, HF.out.few, ⟨HF.out.bel.os, HF.out.bel.tape, HF.out.bel.output, HF.out.bel.size, HF.out.bel.block⟩⟩⟩
          case measure => have := HI1.out; simp [intOf]; omega
        · have ge := text_empty he
          obtain ⟨k, hk, hk58, hkt, hjk⟩ := HJ.out.label i HI1.out.2 HBT.out (by rw [htx]; exact he)
          obtain ⟨d, hdk⟩ : ∃ d, cs[k]? = some d := ⟨cs[k]'(by have := HNE.out; omega), by simp⟩
          obtain ⟨ga2, o2, he2, kN2, kT2⟩ := HPI.out.name hdk
          injection he2 with he2
          injection he2 with he2 he3
          subst he2
          subst he3
          rw [cN_at hdk] at hk58
          rw [cT_at hdk, htx] at hkt
          rw [hk58] at kN2
          rw [hkt] at kT2
          rw [hjk] at kJ
          have e1 : decide ((k : Int) < 0) = false := decide_eq_false (by omega)
          have e2 : decide ((n : Int) ≤ (k : Int)) = false := decide_eq_false (by omega)
          have e2n : decide (n ≤ k) = false := decide_eq_false (by omega)
          have hkn : (k : Int) < (n : Int) := by omega
          have e3 : (0 : Int) ≤ (k : Int) := by omega
          clear hc hnm htx h1 he hle hi1 hk58 hkt hjk hdk
          go_wp2_with fail
          go_quiet (fail)
          go_wp2_with fail
          go_roundw
          case rel => exact ⟨i1, ev, E, rfl, rfl, Lib.hid ⟨HF.out.le, HF.out.own, HF.out.ends, HF.out.few, ⟨HF.out.bel.os, HF.out.bel.tape, HF.out.bel.output, HF.out.bel.size, HF.out.bel.block⟩⟩⟩
          case measure => have := HI1.out; simp [intOf]; omega
end Go.Proofs.Ythlkmlphbepnpaa

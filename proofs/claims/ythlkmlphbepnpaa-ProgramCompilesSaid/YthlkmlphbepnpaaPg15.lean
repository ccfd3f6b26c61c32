/-
  ProgramNested, walked: braces within braces. No condition.
-/
import Derived.Test.YthlkmlphbepnpaaPg14
namespace Go.Proofs.Ythlkmlphbepnpaa
open Go.RowKit Go.Deep

/-- A compiled program in memory, and its commands. -/
structure PrM (cs : List CM) (J : Nat → Int) (g n : Nat) (A : Option Addr) (V : World) : Prop where
  row : RawAt V A (cmV cs)
  prog : V.rangeAt g 0 (imV (ims cs J n))
theorem PrM.stays {cs : List CM} {J : Nat → Int} {g n : Nat} {A : Option Addr} {V V' : World} (h : PrM cs J g n A V) (hb : Below V.heap.size V V') : PrM cs J g n A V' :=
  ⟨h.row.below hb, fun j v hv => by
    rw [World.cell?_of_block (hb.block g (World.block_lt_of_cell? _ _ (h.prog j v hv)))]
    exact h.prog j v hv⟩
theorem PrM.name {cs : List CM} {J : Nat → Int} {g n : Nat} {A : Option Addr} {V : World} (h : PrM cs J g n A V) {i : Nat} {c : CM} (hc : cs[i]? = some c) : ∃ ga o, A = some ⟨ga, o, none⟩ ∧ V.cell? ⟨ga, o + i * 42 + 1, none⟩ = some (.int .u8 c.name) ∧ V.cell? ⟨ga, o + i * 42 + 25, none⟩ = some (.string c.text) := by
  obtain ⟨ga, o, e, hr⟩ := raw_elem CM.len (by omega) h.row hc
  exact ⟨ga, o, e, hr 1 _ rfl, hr 25 _ rfl⟩
theorem PrM.jump {cs : List CM} {J : Nat → Int} {g n : Nat} {A : Option Addr} {V : World} (h : PrM cs J g n A V) {i : Nat} (hi : i < n) : V.cell? ⟨g, i * 43 + 42, none⟩ = some (.int .i64 (J i)) := ins_jump h.prog hi
theorem small_text {l : List BM} (h : ∀ b ∈ l, b.text.size ≤ 100 ∧ b.file.size ≤ 100) : ∀ c ∈ l.map BM.cm, c.text.size ≤ 1048576 := by
  intro c hc
  obtain ⟨b, hb, rfl⟩ := List.mem_map.1 hc
  have := (h b hb).1
  show b.text.size ≤ 1048576
  omega
/-- What Compile answers to commands of whatever kind: an error that is not 0, or a program. -/
theorem comp_two {l : List CM} {w w' : World} {e : Ending} (h : CompAns l w e w') : Below w.heap.size w w' ∧ ((∃ re im x, e = .returned (.tuple #[.slice none 0 0, .complex .f64 re im, .int .i64 x]) ∧ x ≠ 0) ∨
    (l.length ≤ 200 ∧ ∃ J g, Jumps (cN l) (cT l) l.length J ∧ w'.rangeAt g 0 (imV (ims l J l.length)) ∧ e = .returned (.tuple #[.slice (some ⟨g, 0, none⟩) l.length l.length, .complex .f64 0 0, .int .i64 0]))) := by
  obtain ⟨hb, h⟩ := h
  refine ⟨hb, ?_⟩
  rcases h with ⟨_, h⟩ | ⟨_, i, c, _, _, h⟩ | ⟨_, _, i, c, _, _, h⟩ | ⟨h1, J, g, h2, _, h3, h4⟩
  · exact .inl ⟨_, _, _, h, by omega⟩
  · exact .inl ⟨_, _, _, h, by omega⟩
  · exact .inl ⟨_, _, _, h, by omega⟩
  · exact .inr ⟨h1, J, g, h2, h3, h4⟩
set_option maxRecDepth 100000 in
set_option maxHeartbeats 8000000 in
theorem nested_is {l : List BM} {cl : Nat} {A : Option Addr} {w : World} (hr : RawAt w A (bmV l)) :
    Calls Try.prog 5 #[.slice A l.length cl] w (Alv w) := by
  have HC := Lib.hid (commands_is (cl := cl) hr)
  have HA := Lib.hid alive_is
  clear hr
  unfold Alv at *
  go_enter Try.func5, Try.ntmps5
  go_wp2_with fail
  go_at_call 8
  with_reducible refine HC.out.mono ?_
  rintro e w1 ⟨hb1, h⟩
  have HB1 := Lib.hid hb1
  clear hb1
  rcases h with rfl | ⟨hl, hsm, v, hown, rfl⟩
  · have HCO := Lib.hid ((compile_is (l := []) (cl := 0) (A := none) (w := w1) (.inl rfl) (fun c hc => by cases hc)).mono fun e w' h => comp_two h)
    rw [show ([] : List CM).length = 0 from rfl] at HCO
    go_wp2_with fail
    go_at_call 10
    with_reducible refine HCO.out.mono ?_
    rintro e w2 ⟨hb2, h⟩
    have HB2 := Lib.hid (HB1.out.trans (hb2.mono HB1.out.size))
    clear hb2
    rcases h with ⟨re, im, x, rfl, _⟩ | ⟨_, J, g, _, _, rfl⟩
    · go_wp2_with fail
      go_at_call 9
      with_reducible refine (HA.out w2).mono ?_
      rintro e w3 ⟨rfl, hb3⟩
      have HB3 := Lib.hid (HB2.out.trans (hb3.mono HB2.out.size))
      clear hb3
      go_wp2_with fail
      go_ret
      exact ⟨rfl, HB3.out⟩
    · go_wp2_with fail
      go_at_call 9
      with_reducible refine (HA.out w2).mono ?_
      rintro e w3 ⟨rfl, hb3⟩
      have HB3 := Lib.hid (HB2.out.trans (hb3.mono HB2.out.size))
      clear hb3
      go_wp2_with fail
      go_ret
      exact ⟨rfl, HB3.out⟩
  obtain ⟨cs, hcs⟩ : ∃ cs, cs = l.map BM.cm := ⟨_, rfl⟩
  rw [← hcs] at hown
  have HT := Lib.hid (show ∀ c ∈ cs, c.text.size ≤ 1048576 by rw [hcs]; exact small_text hsm)
  have HN := Lib.hid (show cs.length ≤ 220 by rw [hcs, List.length_map]; exact hl)
  obtain ⟨A2, c2, rfl, hraw⟩ := hown.raw
  have HR := Lib.hid hraw
  have HCO := Lib.hid ((compile_is (cl := c2) hraw HT.out).mono fun e w' h => comp_two h)
  clear hl hsm hcs hown hraw
  go_wp2_with fail
  go_at_call 10
  with_reducible refine HCO.out.mono ?_
  rintro e w2 ⟨hb2, h⟩
  have HB2 := Lib.hid (HB1.out.trans (hb2.mono HB1.out.size))
  have HR2 := Lib.hid (HR.out.below hb2)
  clear hb2
  rcases h with ⟨re, im, x, rfl, hx⟩ | ⟨h200, J, g, hj, hpr, rfl⟩
  · have gx : (x == 0) = false := by rw [beq_eq_false_iff_ne]; exact hx
    have gx2 : (x != 0) = true := by rw [bne_iff_ne]; exact hx
    clear hx
    go_wp2_with fail
    go_at_call 9
    with_reducible refine (HA.out w2).mono ?_
    rintro e w3 ⟨rfl, hb3⟩
    have HB3 := Lib.hid (HB2.out.trans (hb3.mono HB2.out.size))
    clear hb3
    go_wp2_with fail
    go_ret
    exact ⟨rfl, HB3.out⟩
  have HJ := Lib.hid hj
  have HP := Lib.hid (show PrM cs J g cs.length A2 w2 from ⟨HR2.out, hpr⟩)
  have HN2 := Lib.hid h200
  obtain ⟨n, hn⟩ : ∃ n, n = cs.length := ⟨_, rfl⟩
  rw [← hn] at HJ HP HN2 ⊢
  have HNE := Lib.hid hn
  clear hj hpr h200 hn
  go_wp2_with fail
  go_loopw [8, 9] (fun iv _ wz => ∃ i : Nat, iv = .int .i64 (i : Int) ∧ Hid (i ≤ n ∧ Below w2.heap.size w2 wz)) (fun iv _ _ => n + 1 - (intOf iv).toNat)
  case atStart => exact ⟨0, rfl, Lib.hid ⟨Nat.zero_le _, Below.refl _ _⟩⟩
  case round =>
    obtain ⟨i, rfl, HI⟩ := hrel
    have hle := HI.out.1
    have hn2 := HN2.out
    by_cases hi : i < n
    case neg =>
      have hd : decide ((i : Int) < (n : Int)) = false := decide_eq_false (by omega)
      have hdn : decide (i < n) = false := decide_eq_false hi
      have hll : (n : Int) ≤ (i : Int) := by omega
      have HB3 := Lib.hid (HB2.out.trans (HI.out.2.mono HB2.out.size))
      have HPR := Lib.hid (HP.out.stays HI.out.2)
      clear hle hi
      go_wp2_with fail
      go_at_call 9
      with_reducible refine (HA.out _).mono ?_
      rintro e w4 ⟨rfl, hb4⟩
      have HB4 := Lib.hid (HB3.out.trans (hb4.mono HB3.out.size))
      have HPR4 := Lib.hid (HPR.out.stays hb4)
      have HD4 := Lib.hid (by have := deep_is (cl := c2) HPR4.out.row (by have := HN.out; omega); rw [← HNE.out] at this; exact this : Calls Try.prog 16 #[.slice A2 n c2] w4 _)
      have hdl := (dpF_le (cN cs) n).2
      obtain ⟨d, hdd⟩ : ∃ d, d = (dpF (cN cs) n).2 := ⟨_, rfl⟩
      rw [← hdd] at HD4 hdl
      have q1 : decide ((0 : Int) ≤ (d : Int)) = true := decide_eq_true (by omega)
      have q2 : decide ((d : Int) ≤ (n : Int)) = true := decide_eq_true (by omega)
      have q2n : decide (d ≤ n) = true := decide_eq_true hdl
      have HDD := Lib.hid hdd
      clear hb4 hdd hdl
      go_wp2_with fail
      go_at_call 16
      with_reducible refine HD4.out.mono ?_
      rintro e w5 ⟨rfl, hb5⟩
      have HB5 := Lib.hid (HB4.out.trans (hb5.mono HB4.out.size))
      have HPR5 := Lib.hid (HPR4.out.stays hb5)
      have HD5 := Lib.hid (by have := deep_is (cl := c2) HPR5.out.row (by have := HN.out; omega); rw [← HNE.out, ← HDD.out] at this; exact this : Calls Try.prog 16 #[.slice A2 n c2] w5 fun e w' => e = .returned (.int .i64 (d : Int)) ∧ Below w5.heap.size w5 w')
      clear hb5
      go_wp2_with fail
      go_at_call 16
      with_reducible refine HD5.out.mono ?_
      rintro e w6 ⟨rfl, hb6⟩
      have HB6 := Lib.hid (HB5.out.trans (hb6.mono HB5.out.size))
      clear hb6
      go_wp2_with fail
      go_ret
      exact ⟨rfl, HB6.out⟩
    have hil : (i : Int) < (n : Int) := by omega
    have hd : decide ((i : Int) < (n : Int)) = true := decide_eq_true hil
    have hdn : decide (i < n) = true := decide_eq_true hi
    have hwi : IntKind.i64.wrap ((i : Int) + 1) = ((i + 1 : Nat) : Int) := by rw [IntWalk.i64_in _ (by omega)]; omega
    obtain ⟨i1, hi1⟩ : ∃ i1, i1 = i + 1 := ⟨_, rfl⟩
    rw [← hi1] at hwi
    have HI1 := Lib.hid hi1
    obtain ⟨c, hc⟩ : ∃ c, cs[i]? = some c := ⟨cs[i]'(by have := HNE.out; omega), by simp⟩
    have HCC := Lib.hid hc
    have HJI := Lib.hid (show c.name = 123 → ∃ j : Nat, J i = (j : Int) ∧ j < n ∧ i < j ∧ Closes (cN cs) i j by
      intro h
      obtain ⟨j, h1, h2, h3, h4⟩ := HJ.out.opened hi (by rw [cN_at hc]; exact h)
      exact ⟨j, h4, h1, h2, h3⟩)
    have HLT := Lib.hid hi
    clear hle hi hi1 hc
    go_upto_region 9 with fail
    go_wp2_with fail
    go_loopw [9] (fun kv wz => ∃ k : Nat, kv = .int .i64 (k : Int) ∧ Hid (i1 ≤ k ∧ k ≤ n + 1 ∧ Below w2.heap.size w2 wz)) (fun kv _ => n + 2 - (intOf kv).toNat)
    case atStart => exact ⟨i1, rfl, Lib.hid ⟨Nat.le_refl _, by have := HI1.out; have := HLT.out; omega, HI.out.2⟩⟩
    case round =>
      obtain ⟨k, rfl, HK⟩ := hrel
      rename_i wr
      have hn2 := HN2.out
      have hk0 := HK.out.1
      have HPK := Lib.hid (HP.out.stays HK.out.2.2)
      by_cases hk : k < n
      case neg =>
        have hd : decide ((k : Int) < (n : Int)) = false := decide_eq_false (by omega)
        have hdn : decide (k < n) = false := decide_eq_false hk
        have hll : (n : Int) ≤ (k : Int) := by omega
        clear hk
        go_wp2_with fail
        go_roundw
        case rel => exact ⟨i1, rfl, Lib.hid ⟨by have := HI1.out; have := HLT.out; omega, HK.out.2.2⟩⟩
        case measure => have := HI1.out; have := HLT.out; simp [intOf]; omega
      obtain ⟨ga, o, rfl, kN, _⟩ := HPK.out.name HCC.out
      have hin : i < n := HLT.out
      have hii : (i : Int) < (n : Int) := by omega
      have hki : (k : Int) < (n : Int) := by omega
      have hd : decide ((k : Int) < (n : Int)) = true := decide_eq_true hki
      have hdn : decide (k < n) = true := decide_eq_true hk
      by_cases hnm : c.name = 123
      case neg =>
        have g1 : ((c.name : Int) == 123) = false := by rw [beq_eq_false_iff_ne]; exact hnm
        clear hk hnm
        go_wp2_with fail
        go_roundw
        case rel => exact ⟨i1, rfl, Lib.hid ⟨by have := HI1.out; have := HLT.out; omega, HK.out.2.2⟩⟩
        case measure => have := HI1.out; have := HLT.out; simp [intOf]; omega
      have g1 : ((c.name : Int) == 123) = true := by rw [hnm]; rfl
      obtain ⟨j, hJ, hjn, hij, hcl⟩ := HJI.out hnm
      have kJ := HPK.out.jump hin
      rw [hJ] at kJ
      by_cases hkj : k < j
      case neg =>
        have e1 : decide ((k : Int) < (j : Int)) = false := decide_eq_false (by omega)
        have e1n : decide (k < j) = false := decide_eq_false hkj
        clear hk hnm hJ hjn hij hcl hkj
        go_wp2_with fail
        go_roundw
        case rel => exact ⟨i1, rfl, Lib.hid ⟨by have := HI1.out; have := HLT.out; omega, HK.out.2.2⟩⟩
        case measure => have := HI1.out; have := HLT.out; simp [intOf]; omega
      have e1 : decide ((k : Int) < (j : Int)) = true := decide_eq_true (by omega)
      have e1n : decide (k < j) = true := decide_eq_true hkj
      obtain ⟨d, hdk⟩ : ∃ d, cs[k]? = some d := ⟨cs[k]'(by have := HNE.out; omega), by simp⟩
      obtain ⟨ga2, o2, he2, kN2, _⟩ := HPK.out.name hdk
      injection he2 with he2
      injection he2 with he2 he3
      subst he2
      subst he3
      have hwk : IntKind.i64.wrap ((k : Int) + 1) = ((k + 1 : Nat) : Int) := by rw [IntWalk.i64_in _ (by omega)]; omega
      obtain ⟨k1, hk1⟩ : ∃ k1, k1 = k + 1 := ⟨_, rfl⟩
      rw [← hk1] at hwk
      have HK1 := Lib.hid (show k1 = k + 1 ∧ k < n ∧ i1 ≤ k from ⟨hk1, hk, hk0⟩)
      by_cases hnk : d.name = 123
      case neg =>
        have g2 : ((d.name : Int) == 123) = false := by rw [beq_eq_false_iff_ne]; exact hnk
        clear hk hnm hJ hjn hij hcl hkj hk1 hdk hnk
        go_wp2_with fail
        go_quiet (fail)
        go_wp2_with fail
        go_roundw
        case rel => exact ⟨k1, rfl, Lib.hid ⟨by have := HK1.out; omega, by have := HK1.out; omega, ⟨HK.out.2.2.os, HK.out.2.2.tape, HK.out.2.2.output, HK.out.2.2.size, HK.out.2.2.block⟩⟩⟩
        case measure => have := HK1.out; simp [intOf]; omega
      have g2 : ((d.name : Int) == 123) = true := by rw [hnk]; rfl
      obtain ⟨m, hm1, hm2, hm3, hm4⟩ := HJ.out.opened hk (by rw [cN_at hdk]; exact hnk)
      have hmj := closes_nest hcl hm3 (by have := HI1.out; omega) hkj
      have kJ2 := HPK.out.jump hk
      rw [hm4] at kJ2
      have e2 : decide ((j : Int) ≤ (m : Int)) = false := decide_eq_false (by omega)
      have e2n : decide (j ≤ m) = false := decide_eq_false (by omega)
      clear hk hnm hJ hjn hij hcl hkj hk1 hdk hnk hm1 hm2 hm3 hm4 hmj
      go_wp2_with fail
      go_quiet (fail)
      go_wp2_with fail
      go_roundw
      case rel => exact ⟨k1, rfl, Lib.hid ⟨by have := HK1.out; omega, by have := HK1.out; omega, ⟨HK.out.2.2.os, HK.out.2.2.tape, HK.out.2.2.output, HK.out.2.2.size, HK.out.2.2.block⟩⟩⟩
      case measure => have := HK1.out; simp [intOf]; omega
end Go.Proofs.Ythlkmlphbepnpaa

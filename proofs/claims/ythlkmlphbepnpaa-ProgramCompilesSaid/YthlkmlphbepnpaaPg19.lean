/-
  ProgramFiles, walked: each file once. No condition.
-/
import Derived.Test.YthlkmlphbepnpaaPg22
import Derived.Test.YthlkmlphbepnpaaPg15
import Derived.Laws.Cover1
namespace Go.Proofs.Ythlkmlphbepnpaa
open Go.RowKit Go.Deep Go.Sort

/-- Commands, and paths, in memory. -/
structure FsM (cs : List CM) (A : Option Addr) (F : List Bs) (A3 : Option Addr) (V : World) : Prop where
  row : RawAt V A (cmV cs)
  fs : RawAt V A3 (sV F)
theorem FsM.stays {cs : List CM} {A A3 : Option Addr} {F : List Bs} {V V' : World} (h : FsM cs A F A3 V) (hb : RowKit.Below V.heap.size V V') : FsM cs A F A3 V' := ⟨h.row.below hb, h.fs.below hb⟩
theorem FsM.file {cs : List CM} {A A3 : Option Addr} {F : List Bs} {V : World} (h : FsM cs A F A3 V) {i : Nat} {x : Bs} (hx : F[i]? = some x) : ∃ g o, A3 = some ⟨g, o, none⟩ ∧ V.cell? ⟨g, o + i, none⟩ = some (.string (txt x)) := h.fs.cell (by simp [sV, hx])
theorem FsM.cmd {cs : List CM} {A A3 : Option Addr} {F : List Bs} {V : World} (h : FsM cs A F A3 V) {i : Nat} {c : CM} (hc : cs[i]? = some c) : ∃ g o, A = some ⟨g, o, none⟩ ∧ V.cell? ⟨g, o + i * 42 + 1, none⟩ = some (.int .u8 c.name) ∧ V.cell? ⟨g, o + i * 42 + 25, none⟩ = some (.string c.text) ∧ V.cell? ⟨g, o + i * 42 + 41, none⟩ = some (.string c.file) := by
  obtain ⟨g, o, e, hr⟩ := raw_elem CM.len (by omega) h.row hc
  exact ⟨g, o, e, hr 1 _ rfl, hr 25 _ rfl, hr 41 _ rfl⟩
/-- One of the first k commands writes to x. -/
def Fnd (cs : List CM) (x : Bs) (k : Nat) : Prop := ∃ j c, j < k ∧ cs[j]? = some c ∧ pathOf c = some x
theorem Fnd.more {cs : List CM} {x : Bs} {k : Nat} {c : CM} (hc : cs[k]? = some c) : Fnd cs x (k + 1) ↔ Fnd cs x k ∨ pathOf c = some x := by
  constructor
  · rintro ⟨j, d, hj, hd, hp⟩
    rcases Nat.lt_or_ge j k with h | h
    · exact .inl ⟨j, d, h, hd, hp⟩
    · obtain rfl : j = k := by omega
      rw [hc] at hd
      injection hd with hd
      subst hd
      exact .inr hp
  · rintro (⟨j, d, hj, hd, hp⟩ | hp)
    · exact ⟨j, d, by omega, hd, hp⟩
    · exact ⟨k, c, by omega, hc, hp⟩
theorem Fnd.all {cs : List CM} {x : Bs} : Fnd cs x cs.length ↔ x ∈ pathsF cs cs.length := by
  unfold pathsF
  rw [List.take_length, List.mem_filterMap]
  constructor
  · rintro ⟨j, c, _, hc, hp⟩
    exact ⟨c, List.mem_of_getElem? hc, hp⟩
  · rintro ⟨c, hc, hp⟩
    obtain ⟨j, hj, he⟩ := List.getElem_of_mem hc
    exact ⟨j, c, hj, by rw [List.getElem?_eq_getElem hj, he], hp⟩
theorem txt_ne {t : ByteArray} {x : Bs} (h : t.data.toList ≠ x) : (t.toList == (txt x).toList) = false := by
  rw [ByteArray.toList_eq, ByteArray.toList_eq, beq_eq_false_iff_ne]
  exact fun e => h e
theorem txt_ne' {t : ByteArray} {x : Bs} (h : t.data.toList ≠ x) : ((txt x).toList == t.toList) = false := by
  rw [ByteArray.toList_eq, ByteArray.toList_eq, beq_eq_false_iff_ne]
  exact fun e => h e.symm
theorem txt_less {x y : Bs} (h : x < y) : Op.bytesLess (txt x).toList (txt y).toList = true := by
  rw [ByteArray.toList_eq, ByteArray.toList_eq, bytesLess_eq]
  exact decide_eq_true h
theorem text_full {t : ByteArray} (h : t ≠ ⟨#[]⟩) : t.toList.isEmpty = false := file_full h
set_option maxRecDepth 100000 in
set_option maxHeartbeats 16000000 in
theorem files_is {l : List BM} {cl : Nat} {A : Option Addr} {w : World} (hr : RawAt w A (bmV l)) :
    Calls Try.prog 6 #[.slice A l.length cl] w (Alv w) := by
  have HC := Lib.hid (commands_is (cl := cl) hr)
  have HA := Lib.hid alive_is
  clear hr
  unfold Alv at *
  go_enter Try.func6, Try.ntmps6
  go_wp2_with fail
  go_at_call 8
  with_reducible refine HC.out.mono ?_
  rintro e w1 ⟨hb1, h⟩
  have HB1 := Lib.hid hb1
  clear hb1
  rcases h with rfl | ⟨hl, hsm, v, hown, rfl⟩
  · go_wp2_with fail
    go_at_call 9
    with_reducible refine (HA.out w1).mono ?_
    rintro e w3 ⟨rfl, hb3⟩
    have HB3 := Lib.hid (HB1.out.trans (hb3.mono HB1.out.size))
    clear hb3
    go_wp2_with fail
    go_ret
    exact ⟨rfl, HB3.out⟩
  obtain ⟨cs, hcs⟩ : ∃ cs, cs = l.map BM.cm := ⟨_, rfl⟩
  rw [← hcs] at hown
  have HN := Lib.hid (show cs.length ≤ 220 by rw [hcs, List.length_map]; exact hl)
  obtain ⟨A2, c2, rfl, hraw⟩ := hown.raw
  have HR := Lib.hid hraw
  have HFI := Lib.hid (files_are (cl := c2) hraw (by have := HN.out; omega))
  clear hl hsm hcs hown hraw
  obtain ⟨n, hn⟩ : ∃ n, n = cs.length := ⟨_, rfl⟩
  rw [← hn] at HFI HN ⊢
  have HNE := Lib.hid hn
  clear hn
  go_wp2_with fail
  go_at_call 14
  with_reducible refine HFI.out.mono ?_
  rintro e w2 ⟨hb2, A3, c3, F, rfl, hfr, hpw, hfl, hmem⟩
  have HB2 := Lib.hid (HB1.out.trans (hb2.mono HB1.out.size))
  have HM := Lib.hid (show FsM cs A2 F A3 w2 from ⟨HR.out.below hb2, hfr⟩)
  have HPW := Lib.hid hpw
  have HFM := Lib.hid hmem
  obtain ⟨q, hq⟩ : ∃ q, q = F.length := ⟨_, rfl⟩
  have HQ := Lib.hid (show q = F.length ∧ q ≤ 220 from ⟨hq, by rw [hq]; exact Nat.le_trans hfl (by rw [← HNE.out]; exact HN.out)⟩)
  rw [← hq]
  clear hb2 hfr hpw hfl hmem hq
  go_wp2_with fail
  go_loopw [6, 7, 8] (fun iv _ _ wz => ∃ i : Nat, iv = .int .i64 (i : Int) ∧ Hid (i ≤ q ∧ RowKit.Below w2.heap.size w2 wz)) (fun iv _ _ _ => q + 1 - (intOf iv).toNat)
  case atStart => exact ⟨0, rfl, Lib.hid ⟨Nat.zero_le _, RowKit.Below.refl _ _⟩⟩
  case round =>
    obtain ⟨i, rfl, HI⟩ := hrel
    have hle := HI.out.1
    have hq2 := HQ.out.2
    by_cases hi : i < q
    case neg =>
      have hd : decide ((i : Int) < (q : Int)) = false := decide_eq_false (by omega)
      have hdn : decide (i < q) = false := decide_eq_false hi
      have hll : (q : Int) ≤ (i : Int) := by omega
      have HBI := Lib.hid HI.out.2
      clear hle hi HI
      go_upto_region 16 with fail
      clear hd hdn hll
      go_wp2_with fail
      go_loopw [9, 10, 11, 12] (fun kv _ _ _ wz => ∃ k : Nat, kv = .int .i64 (k : Int) ∧ Hid (k ≤ n ∧ RowKit.Below w2.heap.size w2 wz)) (fun kv _ _ _ _ => n + 1 - (intOf kv).toNat)
      case atStart => exact ⟨0, rfl, Lib.hid ⟨Nat.zero_le _, HBI.out⟩⟩
      case round =>
        obtain ⟨k, rfl, HK⟩ := hrel
        rename_i wr
        have hkn := HK.out.1
        have hn2 := HN.out
        by_cases hk : k < n
        case neg =>
          have hd : decide ((k : Int) < (n : Int)) = false := decide_eq_false (by omega)
          have hdn : decide (k < n) = false := decide_eq_false hk
          have hll : (n : Int) ≤ (k : Int) := by omega
          have HB3 := Lib.hid (HB2.out.trans (HK.out.2.mono HB2.out.size))
          clear hkn hk
          go_wp2_with fail
          go_at_call 9
          with_reducible refine (HA.out _).mono ?_
          rintro e w4 ⟨rfl, hb4⟩
          have HB4 := Lib.hid (HB3.out.trans (hb4.mono HB3.out.size))
          clear hb4
          go_wp2_with fail
          go_ret
          exact ⟨rfl, HB4.out⟩
        have HMK := Lib.hid (HM.out.stays HK.out.2)
        obtain ⟨c, hc⟩ : ∃ c, cs[k]? = some c := ⟨cs[k]'(by have := HNE.out; omega), by simp⟩
        obtain ⟨ga, oa, rfl, kN, kT, kF⟩ := HMK.out.cmd hc
        have HCC := Lib.hid hc
        have hki : (k : Int) < (n : Int) := by omega
        have hd : decide ((k : Int) < (n : Int)) = true := decide_eq_true hki
        have hdn : decide (k < n) = true := decide_eq_true hk
        have hwk : IntKind.i64.wrap ((k : Int) + 1) = ((k + 1 : Nat) : Int) := by rw [IntWalk.i64_in _ (by omega)]; omega
        obtain ⟨k1, hk1⟩ : ∃ k1, k1 = k + 1 := ⟨_, rfl⟩
        rw [← hk1] at hwk
        have HK1 := Lib.hid (And.intro hk1 hk)
        have hpath : ∀ x, pathOf c = some x → x ∈ F := fun x hx => (HFM.out x).2 (Fnd.all.1 ⟨k, c, by have := HNE.out; omega, hc, hx⟩)
        have HPA := Lib.hid hpath
        clear hkn hk hn2 hk1 hc hpath
        by_cases h5 : c.name = 115
        · have g5 : (c.name == 115) = true := by rw [h5]; rfl
          have b9 : (c.name != 119) = true := by rw [h5]; rfl
          have b5 : (c.name != 115) = false := by rw [h5]; rfl
          by_cases he : c.file = ⟨#[]⟩
          · have ge : c.file.toList.isEmpty = true := by rw [he, ByteArray.toList_eq]; rfl
            clear h5 he
            go_upto_region 23 with fail
            go_wp2_with fail
            go_loopw [11, 12] (fun bv jv wz => ∃ (j : Nat) (b : Bool), jv = .int .i64 (j : Int) ∧ bv = .bool b ∧ Hid (j ≤ q ∧ (b = true ∨ (q ≤ j → False) ∧ ∃ i, j ≤ i ∧ F[i]? = some c.file.data.toList) ∧ RowKit.Below w2.heap.size w2 wz)) (fun _ jv _ => q + 1 - (intOf jv).toNat)
            case atStart => exact ⟨0, _, rfl, rfl, Lib.hid ⟨Nat.zero_le _, .inl rfl, ⟨HK.out.2.os, HK.out.2.tape, HK.out.2.output, HK.out.2.size, HK.out.2.block⟩⟩⟩
            case round =>
              obtain ⟨j, b, rfl, rfl, HJ⟩ := hrel
              rename_i wz
              have hjq := HJ.out.1
              have hq2 := HQ.out.2
              have hwj : IntKind.i64.wrap ((j : Int) + 1) = ((j + 1 : Nat) : Int) := by rw [IntWalk.i64_in _ (by omega)]; omega
              by_cases hj : j < q
              case neg =>
                have e1 : decide ((j : Int) < (q : Int)) = false := decide_eq_false (by omega)
                have e1n : decide (j < q) = false := decide_eq_false hj
                have e1l : (q : Int) ≤ (j : Int) := by omega
                have hbt : b = true := by
                  rcases HJ.out.2.1 with h | h
                  · exact h
                  · exact (h.1 (by omega)).elim
                subst hbt
                clear hj hjq hq2 hwj
                go_wp2_with fail
                go_roundw
                case rel => exact ⟨k1, rfl, Lib.hid ⟨by have := HK1.out; omega, ⟨HJ.out.2.2.os, HJ.out.2.2.tape, HJ.out.2.2.output, HJ.out.2.2.size, HJ.out.2.2.block⟩⟩⟩
                case measure => have := HK1.out; simp [intOf]; omega
              have HMJ := Lib.hid (HM.out.stays HJ.out.2.2)
              obtain ⟨x, hx⟩ : ∃ x, F[j]? = some x := ⟨F[j]'(by have := HQ.out.1; omega), by simp⟩
              obtain ⟨g3, o3, rfl, kX⟩ := HMJ.out.file hx
              have e1 : decide ((j : Int) < (q : Int)) = true := decide_eq_true (by omega)
              have e1n : decide (j < q) = true := decide_eq_true hj
              have hji : (j : Int) < (q : Int) := by omega
              obtain ⟨j1, hj1⟩ : ∃ j1, j1 = j + 1 := ⟨_, rfl⟩
              rw [← hj1] at hwj
              have HJ1 := Lib.hid (And.intro hj1 hj)
              cases b with
              | true =>
                clear hj hjq hq2 hj1 hx
                go_wp2_with fail
                go_roundw
                case rel => exact ⟨j1, true, rfl, rfl, Lib.hid ⟨by have := HJ1.out; omega, .inl rfl, ⟨HJ.out.2.2.os, HJ.out.2.2.tape, HJ.out.2.2.output, HJ.out.2.2.size, HJ.out.2.2.block⟩⟩⟩
                case measure => have := HJ1.out; simp [intOf]; omega
              | false =>
                by_cases hxs : c.file.data.toList = x
                · have hst : txt x = c.file := by rw [← hxs, txt_of]
                  rw [hst] at kX
                  clear hj hjq hq2 hj1 hx hxs hst
                  go_wp2_with fail
                  go_roundw
                  case rel => exact ⟨j1, true, rfl, rfl, Lib.hid ⟨by have := HJ1.out; omega, .inl rfl, ⟨HJ.out.2.2.os, HJ.out.2.2.tape, HJ.out.2.2.output, HJ.out.2.2.size, HJ.out.2.2.block⟩⟩⟩
                  case measure => have := HJ1.out; simp [intOf]; omega
                · have gs := txt_ne' hxs
                  have HNX := Lib.hid (show false = true ∨ (q ≤ j1 → False) ∧ ∃ i, j1 ≤ i ∧ F[i]? = some c.file.data.toList by
                    rcases HJ.out.2.1 with h | ⟨_, i, hi, hFi⟩
                    · exact .inl h
                    · have hne : i ≠ j := fun e => by rw [e, hx] at hFi; injection hFi with hFi; exact hxs hFi.symm
                      have hiq : i < q := by rw [HQ.out.1]; exact (List.getElem?_eq_some_iff.1 hFi).1
                      exact .inr ⟨fun h => by omega, i, by omega, hFi⟩)
                  clear hj hjq hq2 hj1 hx hxs
                  go_wp2_with fail
                  go_roundw
                  case rel => exact ⟨j1, false, rfl, rfl, Lib.hid ⟨by have := HJ1.out; omega, HNX.out, ⟨HJ.out.2.2.os, HJ.out.2.2.tape, HJ.out.2.2.output, HJ.out.2.2.size, HJ.out.2.2.block⟩⟩⟩
                  case measure => have := HJ1.out; simp [intOf]; omega
          · have ge := text_full he
            have HB0 := Lib.hid (show (false : Bool) = true ∨ (q ≤ 0 → False) ∧ ∃ i, 0 ≤ i ∧ F[i]? = some c.file.data.toList from .inr (by obtain ⟨i, hi, he⟩ := List.getElem_of_mem (HPA.out c.file.data.toList (by unfold pathOf; rw [if_neg (by omega), if_pos ⟨h5, he⟩])); exact ⟨fun h => by have := HQ.out.1; omega, i, Nat.zero_le _, by rw [List.getElem?_eq_getElem hi, he]⟩))
            clear h5 he
            go_upto_region 23 with fail
            go_wp2_with fail
            go_loopw [11, 12] (fun bv jv wz => ∃ (j : Nat) (b : Bool), jv = .int .i64 (j : Int) ∧ bv = .bool b ∧ Hid (j ≤ q ∧ (b = true ∨ (q ≤ j → False) ∧ ∃ i, j ≤ i ∧ F[i]? = some c.file.data.toList) ∧ RowKit.Below w2.heap.size w2 wz)) (fun _ jv _ => q + 1 - (intOf jv).toNat)
            case atStart => exact ⟨0, _, rfl, rfl, Lib.hid ⟨Nat.zero_le _, HB0.out, ⟨HK.out.2.os, HK.out.2.tape, HK.out.2.output, HK.out.2.size, HK.out.2.block⟩⟩⟩
            case round =>
              obtain ⟨j, b, rfl, rfl, HJ⟩ := hrel
              rename_i wz
              have hjq := HJ.out.1
              have hq2 := HQ.out.2
              have hwj : IntKind.i64.wrap ((j : Int) + 1) = ((j + 1 : Nat) : Int) := by rw [IntWalk.i64_in _ (by omega)]; omega
              by_cases hj : j < q
              case neg =>
                have e1 : decide ((j : Int) < (q : Int)) = false := decide_eq_false (by omega)
                have e1n : decide (j < q) = false := decide_eq_false hj
                have e1l : (q : Int) ≤ (j : Int) := by omega
                have hbt : b = true := by
                  rcases HJ.out.2.1 with h | h
                  · exact h
                  · exact (h.1 (by omega)).elim
                subst hbt
                clear hj hjq hq2 hwj
                go_wp2_with fail
                go_roundw
                case rel => exact ⟨k1, rfl, Lib.hid ⟨by have := HK1.out; omega, ⟨HJ.out.2.2.os, HJ.out.2.2.tape, HJ.out.2.2.output, HJ.out.2.2.size, HJ.out.2.2.block⟩⟩⟩
                case measure => have := HK1.out; simp [intOf]; omega
              have HMJ := Lib.hid (HM.out.stays HJ.out.2.2)
              obtain ⟨x, hx⟩ : ∃ x, F[j]? = some x := ⟨F[j]'(by have := HQ.out.1; omega), by simp⟩
              obtain ⟨g3, o3, rfl, kX⟩ := HMJ.out.file hx
              have e1 : decide ((j : Int) < (q : Int)) = true := decide_eq_true (by omega)
              have e1n : decide (j < q) = true := decide_eq_true hj
              have hji : (j : Int) < (q : Int) := by omega
              obtain ⟨j1, hj1⟩ : ∃ j1, j1 = j + 1 := ⟨_, rfl⟩
              rw [← hj1] at hwj
              have HJ1 := Lib.hid (And.intro hj1 hj)
              cases b with
              | true =>
                clear hj hjq hq2 hj1 hx
                go_wp2_with fail
                go_roundw
                case rel => exact ⟨j1, true, rfl, rfl, Lib.hid ⟨by have := HJ1.out; omega, .inl rfl, ⟨HJ.out.2.2.os, HJ.out.2.2.tape, HJ.out.2.2.output, HJ.out.2.2.size, HJ.out.2.2.block⟩⟩⟩
                case measure => have := HJ1.out; simp [intOf]; omega
              | false =>
                by_cases hxs : c.file.data.toList = x
                · have hst : txt x = c.file := by rw [← hxs, txt_of]
                  rw [hst] at kX
                  clear hj hjq hq2 hj1 hx hxs hst
                  go_wp2_with fail
                  go_roundw
                  case rel => exact ⟨j1, true, rfl, rfl, Lib.hid ⟨by have := HJ1.out; omega, .inl rfl, ⟨HJ.out.2.2.os, HJ.out.2.2.tape, HJ.out.2.2.output, HJ.out.2.2.size, HJ.out.2.2.block⟩⟩⟩
                  case measure => have := HJ1.out; simp [intOf]; omega
                · have gs := txt_ne' hxs
                  have HNX := Lib.hid (show false = true ∨ (q ≤ j1 → False) ∧ ∃ i, j1 ≤ i ∧ F[i]? = some c.file.data.toList by
                    rcases HJ.out.2.1 with h | ⟨_, i, hi, hFi⟩
                    · exact .inl h
                    · have hne : i ≠ j := fun e => by rw [e, hx] at hFi; injection hFi with hFi; exact hxs hFi.symm
                      have hiq : i < q := by rw [HQ.out.1]; exact (List.getElem?_eq_some_iff.1 hFi).1
                      exact .inr ⟨fun h => by omega, i, by omega, hFi⟩)
                  clear hj hjq hq2 hj1 hx hxs
                  go_wp2_with fail
                  go_roundw
                  case rel => exact ⟨j1, false, rfl, rfl, Lib.hid ⟨by have := HJ1.out; omega, HNX.out, ⟨HJ.out.2.2.os, HJ.out.2.2.tape, HJ.out.2.2.output, HJ.out.2.2.size, HJ.out.2.2.block⟩⟩⟩
                  case measure => have := HJ1.out; simp [intOf]; omega
        have g5 : (c.name == 115) = false := by rw [beq_eq_false_iff_ne]; exact h5
        have n5 : ¬ c.name = 115 := h5
        by_cases h9 : c.name = 119
        · have b9 : (c.name != 119) = false := by rw [h9]; rfl
          have HB0 := Lib.hid (show (false : Bool) = true ∨ (q ≤ 0 → False) ∧ ∃ i, 0 ≤ i ∧ F[i]? = some c.text.data.toList from .inr (by obtain ⟨i, hi, he⟩ := List.getElem_of_mem (HPA.out c.text.data.toList (by unfold pathOf; rw [if_pos h9])); exact ⟨fun h => by have := HQ.out.1; omega, i, Nat.zero_le _, by rw [List.getElem?_eq_getElem hi, he]⟩))
          clear h5 h9
          go_upto_region 23 with fail
          go_wp2_with fail
          go_loopw [11, 12] (fun bv jv wz => ∃ (j : Nat) (b : Bool), jv = .int .i64 (j : Int) ∧ bv = .bool b ∧ Hid (j ≤ q ∧ (b = true ∨ (q ≤ j → False) ∧ ∃ i, j ≤ i ∧ F[i]? = some c.text.data.toList) ∧ RowKit.Below w2.heap.size w2 wz)) (fun _ jv _ => q + 1 - (intOf jv).toNat)
          case atStart => exact ⟨0, _, rfl, rfl, Lib.hid ⟨Nat.zero_le _, HB0.out, ⟨HK.out.2.os, HK.out.2.tape, HK.out.2.output, HK.out.2.size, HK.out.2.block⟩⟩⟩
          case round =>
            obtain ⟨j, b, rfl, rfl, HJ⟩ := hrel
            rename_i wz
            have hjq := HJ.out.1
            have hq2 := HQ.out.2
            have hwj : IntKind.i64.wrap ((j : Int) + 1) = ((j + 1 : Nat) : Int) := by rw [IntWalk.i64_in _ (by omega)]; omega
            by_cases hj : j < q
            case neg =>
              have e1 : decide ((j : Int) < (q : Int)) = false := decide_eq_false (by omega)
              have e1n : decide (j < q) = false := decide_eq_false hj
              have e1l : (q : Int) ≤ (j : Int) := by omega
              have hbt : b = true := by
                rcases HJ.out.2.1 with h | h
                · exact h
                · exact (h.1 (by omega)).elim
              subst hbt
              clear hj hjq hq2 hwj
              go_wp2_with fail
              go_roundw
              case rel => exact ⟨k1, rfl, Lib.hid ⟨by have := HK1.out; omega, ⟨HJ.out.2.2.os, HJ.out.2.2.tape, HJ.out.2.2.output, HJ.out.2.2.size, HJ.out.2.2.block⟩⟩⟩
              case measure => have := HK1.out; simp [intOf]; omega
            have HMJ := Lib.hid (HM.out.stays HJ.out.2.2)
            obtain ⟨x, hx⟩ : ∃ x, F[j]? = some x := ⟨F[j]'(by have := HQ.out.1; omega), by simp⟩
            obtain ⟨g3, o3, rfl, kX⟩ := HMJ.out.file hx
            have e1 : decide ((j : Int) < (q : Int)) = true := decide_eq_true (by omega)
            have e1n : decide (j < q) = true := decide_eq_true hj
            have hji : (j : Int) < (q : Int) := by omega
            obtain ⟨j1, hj1⟩ : ∃ j1, j1 = j + 1 := ⟨_, rfl⟩
            rw [← hj1] at hwj
            have HJ1 := Lib.hid (And.intro hj1 hj)
            cases b with
            | true =>
              clear hj hjq hq2 hj1 hx
              go_wp2_with fail
              go_roundw
              case rel => exact ⟨j1, true, rfl, rfl, Lib.hid ⟨by have := HJ1.out; omega, .inl rfl, ⟨HJ.out.2.2.os, HJ.out.2.2.tape, HJ.out.2.2.output, HJ.out.2.2.size, HJ.out.2.2.block⟩⟩⟩
              case measure => have := HJ1.out; simp [intOf]; omega
            | false =>
              by_cases hxs : c.text.data.toList = x
              · have hst : txt x = c.text := by rw [← hxs, txt_of]
                rw [hst] at kX
                clear hj hjq hq2 hj1 hx hxs hst
                go_wp2_with fail
                go_roundw
                case rel => exact ⟨j1, true, rfl, rfl, Lib.hid ⟨by have := HJ1.out; omega, .inl rfl, ⟨HJ.out.2.2.os, HJ.out.2.2.tape, HJ.out.2.2.output, HJ.out.2.2.size, HJ.out.2.2.block⟩⟩⟩
                case measure => have := HJ1.out; simp [intOf]; omega
              · have gs := txt_ne' hxs
                have HNX := Lib.hid (show false = true ∨ (q ≤ j1 → False) ∧ ∃ i, j1 ≤ i ∧ F[i]? = some c.text.data.toList by
                  rcases HJ.out.2.1 with h | ⟨_, i, hi, hFi⟩
                  · exact .inl h
                  · have hne : i ≠ j := fun e => by rw [e, hx] at hFi; injection hFi with hFi; exact hxs hFi.symm
                    have hiq : i < q := by rw [HQ.out.1]; exact (List.getElem?_eq_some_iff.1 hFi).1
                    exact .inr ⟨fun h => by omega, i, by omega, hFi⟩)
                clear hj hjq hq2 hj1 hx hxs
                go_wp2_with fail
                go_roundw
                case rel => exact ⟨j1, false, rfl, rfl, Lib.hid ⟨by have := HJ1.out; omega, HNX.out, ⟨HJ.out.2.2.os, HJ.out.2.2.tape, HJ.out.2.2.output, HJ.out.2.2.size, HJ.out.2.2.block⟩⟩⟩
                case measure => have := HJ1.out; simp [intOf]; omega
        · have b9 : (c.name != 119) = true := by simp [h9]
          have b5 : (c.name != 115) = true := by simp [h5]
          have n9 : ¬ c.name = 119 := h9
          clear h5 h9
          go_upto_region 23 with fail
          go_wp2_with fail
          go_loopw [11, 12] (fun bv jv wz => ∃ (j : Nat) (b : Bool), jv = .int .i64 (j : Int) ∧ bv = .bool b ∧ Hid (j ≤ q ∧ (b = true ∨ (q ≤ j → False) ∧ ∃ i, j ≤ i ∧ F[i]? = some c.text.data.toList) ∧ RowKit.Below w2.heap.size w2 wz)) (fun _ jv _ => q + 1 - (intOf jv).toNat)
          case atStart => exact ⟨0, _, rfl, rfl, Lib.hid ⟨Nat.zero_le _, .inl rfl, ⟨HK.out.2.os, HK.out.2.tape, HK.out.2.output, HK.out.2.size, HK.out.2.block⟩⟩⟩
          case round =>
            obtain ⟨j, b, rfl, rfl, HJ⟩ := hrel
            rename_i wz
            have hjq := HJ.out.1
            have hq2 := HQ.out.2
            have hwj : IntKind.i64.wrap ((j : Int) + 1) = ((j + 1 : Nat) : Int) := by rw [IntWalk.i64_in _ (by omega)]; omega
            by_cases hj : j < q
            case neg =>
              have e1 : decide ((j : Int) < (q : Int)) = false := decide_eq_false (by omega)
              have e1n : decide (j < q) = false := decide_eq_false hj
              have e1l : (q : Int) ≤ (j : Int) := by omega
              have hbt : b = true := by
                rcases HJ.out.2.1 with h | h
                · exact h
                · exact (h.1 (by omega)).elim
              subst hbt
              clear hj hjq hq2 hwj
              go_wp2_with fail
              go_roundw
              case rel => exact ⟨k1, rfl, Lib.hid ⟨by have := HK1.out; omega, ⟨HJ.out.2.2.os, HJ.out.2.2.tape, HJ.out.2.2.output, HJ.out.2.2.size, HJ.out.2.2.block⟩⟩⟩
              case measure => have := HK1.out; simp [intOf]; omega
            have HMJ := Lib.hid (HM.out.stays HJ.out.2.2)
            obtain ⟨x, hx⟩ : ∃ x, F[j]? = some x := ⟨F[j]'(by have := HQ.out.1; omega), by simp⟩
            obtain ⟨g3, o3, rfl, kX⟩ := HMJ.out.file hx
            have e1 : decide ((j : Int) < (q : Int)) = true := decide_eq_true (by omega)
            have e1n : decide (j < q) = true := decide_eq_true hj
            have hji : (j : Int) < (q : Int) := by omega
            obtain ⟨j1, hj1⟩ : ∃ j1, j1 = j + 1 := ⟨_, rfl⟩
            rw [← hj1] at hwj
            have HJ1 := Lib.hid (And.intro hj1 hj)
            cases b with
            | true =>
              clear hj hjq hq2 hj1 hx
              go_wp2_with fail
              go_roundw
              case rel => exact ⟨j1, true, rfl, rfl, Lib.hid ⟨by have := HJ1.out; omega, .inl rfl, ⟨HJ.out.2.2.os, HJ.out.2.2.tape, HJ.out.2.2.output, HJ.out.2.2.size, HJ.out.2.2.block⟩⟩⟩
              case measure => have := HJ1.out; simp [intOf]; omega
            | false =>
              by_cases hxs : c.text.data.toList = x
              · have hst : txt x = c.text := by rw [← hxs, txt_of]
                rw [hst] at kX
                clear hj hjq hq2 hj1 hx hxs hst
                go_wp2_with fail
                go_roundw
                case rel => exact ⟨j1, true, rfl, rfl, Lib.hid ⟨by have := HJ1.out; omega, .inl rfl, ⟨HJ.out.2.2.os, HJ.out.2.2.tape, HJ.out.2.2.output, HJ.out.2.2.size, HJ.out.2.2.block⟩⟩⟩
                case measure => have := HJ1.out; simp [intOf]; omega
              · have gs := txt_ne' hxs
                have HNX := Lib.hid (show false = true ∨ (q ≤ j1 → False) ∧ ∃ i, j1 ≤ i ∧ F[i]? = some c.text.data.toList by
                  rcases HJ.out.2.1 with h | ⟨_, i, hi, hFi⟩
                  · exact .inl h
                  · have hne : i ≠ j := fun e => by rw [e, hx] at hFi; injection hFi with hFi; exact hxs hFi.symm
                    have hiq : i < q := by rw [HQ.out.1]; exact (List.getElem?_eq_some_iff.1 hFi).1
                    exact .inr ⟨fun h => by omega, i, by omega, hFi⟩)
                clear hj hjq hq2 hj1 hx hxs
                go_wp2_with fail
                go_roundw
                case rel => exact ⟨j1, false, rfl, rfl, Lib.hid ⟨by have := HJ1.out; omega, HNX.out, ⟨HJ.out.2.2.os, HJ.out.2.2.tape, HJ.out.2.2.output, HJ.out.2.2.size, HJ.out.2.2.block⟩⟩⟩
                case measure => have := HJ1.out; simp [intOf]; omega
    have hil : (i : Int) < (q : Int) := by omega
    have hd : decide ((i : Int) < (q : Int)) = true := decide_eq_true hil
    have hdn : decide (i < q) = true := decide_eq_true hi
    have hwi : IntKind.i64.wrap ((i : Int) + 1) = ((i + 1 : Nat) : Int) := by rw [IntWalk.i64_in _ (by omega)]; omega
    obtain ⟨i1, hi1⟩ : ∃ i1, i1 = i + 1 := ⟨_, rfl⟩
    rw [← hi1] at hwi
    have HI1 := Lib.hid (And.intro hi1 hi)
    obtain ⟨x, hx⟩ : ∃ x, F[i]? = some x := ⟨F[i]'(by have := HQ.out.1; omega), by simp⟩
    have HX := Lib.hid hx
    have HXF := Lib.hid (show Fnd cs x n by rw [HNE.out]; exact Fnd.all.2 ((HFM.out x).1 (List.mem_of_getElem? hx)))
    clear hle hi hi1 hx
    go_upto_region 10 with fail
    go_wp2_with fail
    go_loopw [7, 8] (fun bv kv wz => ∃ (k : Nat) (b : Bool), kv = .int .i64 (k : Int) ∧ bv = .bool b ∧ Hid (k ≤ n ∧ (b = true ↔ Fnd cs x k) ∧ RowKit.Below w2.heap.size w2 wz)) (fun _ kv _ => n + 1 - (intOf kv).toNat)
    case atStart => exact ⟨0, false, rfl, rfl, Lib.hid ⟨Nat.zero_le _, ⟨fun h => (by cases h), fun h => (by obtain ⟨j, _, hj, _⟩ := h; exact absurd hj (Nat.not_lt_zero j))⟩, HI.out.2⟩⟩
    case round =>
      obtain ⟨k, b, rfl, rfl, HK⟩ := hrel
      rename_i wr
      have hkn := HK.out.1
      have hn2 := HN.out
      have hq2 := HQ.out.2
      have HMK := Lib.hid (HM.out.stays HK.out.2.2)
      obtain ⟨g3, o3, rfl, kX⟩ := HMK.out.file HX.out
      by_cases hk : k < n
      case neg =>
        have hd : decide ((k : Int) < (n : Int)) = false := decide_eq_false (by omega)
        have hdn : decide (k < n) = false := decide_eq_false hk
        have hll : (n : Int) ≤ (k : Int) := by omega
        have hbt : b = true := HK.out.2.1.2 (by rw [show k = n by omega]; exact HXF.out)
        subst hbt
        have hin : i < q := HI1.out.2
        have hii : (i : Int) < (q : Int) := by omega
        by_cases h0 : i = 0
        · have e0 : decide ((0 : Int) < (i : Int)) = false := decide_eq_false (by omega)
          have e0n : decide (0 < i) = false := decide_eq_false (by omega)
          have e1 : ¬ (0 : Int) < (i : Int) := by omega
          clear hk hkn h0
          go_wp2_with fail
          go_quiet (fail)
          go_wp2_with fail
          go_roundw
          case rel => exact ⟨i1, rfl, Lib.hid ⟨by have := HI1.out; omega, ⟨HK.out.2.2.os, HK.out.2.2.tape, HK.out.2.2.output, HK.out.2.2.size, HK.out.2.2.block⟩⟩⟩
          case measure => have := HI1.out; simp [intOf]; omega
        · obtain ⟨j, hj⟩ : ∃ j, i = j + 1 := ⟨i - 1, by omega⟩
          obtain ⟨y, hy⟩ : ∃ y, F[j]? = some y := ⟨F[j]'(by have := HQ.out.1; omega), by simp⟩
          obtain ⟨g4, o4, he4, kY⟩ := HMK.out.file hy
          injection he4 with he4
          injection he4 with he4 he5
          subst he4
          subst he5
          have hyx : y < x := by
            obtain ⟨hj1, hj2⟩ := List.getElem?_eq_some_iff.1 hy
            obtain ⟨hi1', hi2⟩ := List.getElem?_eq_some_iff.1 HX.out
            have := List.pairwise_iff_getElem.1 HPW.out j i hj1 hi1' (by omega)
            rwa [hj2, hi2] at this
          have hless := txt_less hyx
          have hwj : IntKind.i64.wrap ((i : Int) - 1) = (j : Int) := by rw [IntWalk.i64_in _ (by omega)]; omega
          have e0 : decide ((0 : Int) < (i : Int)) = true := decide_eq_true (by omega)
          have e0n : decide (0 < i) = true := decide_eq_true (by omega)
          have hjq : (j : Int) < (q : Int) := by omega
          have hjqn : j < q := by omega
          clear hk hkn h0 hj hy hyx
          go_wp2_with fail
          go_quiet (fail)
          go_wp2_with fail
          go_roundw
          case rel => exact ⟨i1, rfl, Lib.hid ⟨by have := HI1.out; omega, ⟨HK.out.2.2.os, HK.out.2.2.tape, HK.out.2.2.output, HK.out.2.2.size, HK.out.2.2.block⟩⟩⟩
          case measure => have := HI1.out; simp [intOf]; omega
      obtain ⟨c, hc⟩ : ∃ c, cs[k]? = some c := ⟨cs[k]'(by have := HNE.out; omega), by simp⟩
      obtain ⟨ga, oa, rfl, kN, kT, kF⟩ := HMK.out.cmd hc
      have HCC := Lib.hid hc
      have hki : (k : Int) < (n : Int) := by omega
      have hd : decide ((k : Int) < (n : Int)) = true := decide_eq_true hki
      have hdn : decide (k < n) = true := decide_eq_true hk
      have hwk : IntKind.i64.wrap ((k : Int) + 1) = ((k + 1 : Nat) : Int) := by rw [IntWalk.i64_in _ (by omega)]; omega
      obtain ⟨k1, hk1⟩ : ∃ k1, k1 = k + 1 := ⟨_, rfl⟩
      rw [← hk1] at hwk
      have HK1 := Lib.hid (And.intro hk1 hk)
      have hin : i < q := HI1.out.2
      have hii : (i : Int) < (q : Int) := by omega
      cases b with
      | true =>
        have HEND := Lib.hid (show Fnd cs x k1 by rw [HK1.out.1, Fnd.more HCC.out]; exact .inl (HK.out.2.1.1 rfl))
        clear hk hkn hn2 hq2 hk1 hc
        go_wp2_with fail
        go_quiet (fail)
        go_wp2_with fail
        go_roundw
        case rel => exact ⟨k1, true, rfl, rfl, Lib.hid ⟨by have := HK1.out; omega, ⟨fun _ => HEND.out, fun _ => rfl⟩, ⟨HK.out.2.2.os, HK.out.2.2.tape, HK.out.2.2.output, HK.out.2.2.size, HK.out.2.2.block⟩⟩⟩
        case measure => have := HK1.out; simp [intOf]; omega
      | false =>
        by_cases h9 : c.name = 119
        · have g9 : (c.name == 119) = true := by rw [h9]; rfl
          have g5 : (c.name == 115) = false := by rw [h9]; rfl
          by_cases htx : c.text.data.toList = x
          · have hpt : c.text = txt x := by rw [← htx, txt_of]
            rw [hpt] at kT
            have HEND := Lib.hid (show Fnd cs x k1 by rw [HK1.out.1, Fnd.more HCC.out]; exact .inr (by unfold pathOf; rw [if_pos h9, htx]))
            clear hk hkn hn2 hq2 hk1 hc h9 htx hpt
            go_wp2_with fail
            go_quiet (fail)
            go_wp2_with fail
            go_roundw
            case rel => exact ⟨k1, true, rfl, rfl, Lib.hid ⟨by have := HK1.out; omega, ⟨fun _ => HEND.out, fun _ => rfl⟩, ⟨HK.out.2.2.os, HK.out.2.2.tape, HK.out.2.2.output, HK.out.2.2.size, HK.out.2.2.block⟩⟩⟩
            case measure => have := HK1.out; simp [intOf]; omega
          · have gt := txt_ne htx
            have HEND := Lib.hid (show (false = true ↔ Fnd cs x k1) by rw [HK1.out.1, Fnd.more HCC.out]; exact ⟨fun h => (by cases h), fun h => h.elim HK.out.2.1.2 fun h => absurd h (by unfold pathOf; rw [if_pos h9]; exact fun e => htx (Option.some.inj e))⟩)
            clear hk hkn hn2 hq2 hk1 hc h9 htx
            go_wp2_with fail
            go_quiet (fail)
            go_wp2_with fail
            go_roundw
            case rel => exact ⟨k1, false, rfl, rfl, Lib.hid ⟨by have := HK1.out; omega, HEND.out, ⟨HK.out.2.2.os, HK.out.2.2.tape, HK.out.2.2.output, HK.out.2.2.size, HK.out.2.2.block⟩⟩⟩
            case measure => have := HK1.out; simp [intOf]; omega
        · have g9 : (c.name == 119) = false := by rw [beq_eq_false_iff_ne]; exact h9
          by_cases h5 : c.name = 115
          · have g5 : (c.name == 115) = true := by rw [h5]; rfl
            by_cases hfx : c.file.data.toList = x
            · have hpt : c.file = txt x := by rw [← hfx, txt_of]
              by_cases hx0 : x = []
              · have gx : (txt x).toList.isEmpty = true := by rw [hx0, ByteArray.toList_eq]; rfl
                have HEND := Lib.hid (show (false = true ↔ Fnd cs x k1) by rw [HK1.out.1, Fnd.more HCC.out]; exact ⟨fun h => (by cases h), fun h => h.elim HK.out.2.1.2 fun h => absurd h (by unfold pathOf; rw [if_neg h9, if_neg (fun h => h.2 (by rw [hpt, hx0]; rfl))]; exact fun e => by cases e)⟩)
                rw [hpt] at kF
                clear hk hkn hn2 hq2 hk1 hc h9 h5 hfx hpt hx0
                go_wp2_with fail
                go_quiet (fail)
                go_wp2_with fail
                go_roundw
                case rel => exact ⟨k1, false, rfl, rfl, Lib.hid ⟨by have := HK1.out; omega, HEND.out, ⟨HK.out.2.2.os, HK.out.2.2.tape, HK.out.2.2.output, HK.out.2.2.size, HK.out.2.2.block⟩⟩⟩
                case measure => have := HK1.out; simp [intOf]; omega
              · have hne : txt x ≠ ⟨#[]⟩ := fun e => hx0 (by have := congrArg (fun t : ByteArray => t.data.toList) e; simpa [txt] using this)
                have gx := text_full hne
                have HEND := Lib.hid (show Fnd cs x k1 by rw [HK1.out.1, Fnd.more HCC.out]; exact .inr (by unfold pathOf; rw [if_neg h9, if_pos ⟨h5, by rw [hpt]; exact hne⟩, hfx]))
                rw [hpt] at kF
                clear hk hkn hn2 hq2 hk1 hc h9 h5 hfx hpt hx0 hne
                go_wp2_with fail
                go_quiet (fail)
                go_wp2_with fail
                go_roundw
                case rel => exact ⟨k1, true, rfl, rfl, Lib.hid ⟨by have := HK1.out; omega, ⟨fun _ => HEND.out, fun _ => rfl⟩, ⟨HK.out.2.2.os, HK.out.2.2.tape, HK.out.2.2.output, HK.out.2.2.size, HK.out.2.2.block⟩⟩⟩
                case measure => have := HK1.out; simp [intOf]; omega
            · have gf := txt_ne hfx
              have HEND := Lib.hid (show (false = true ↔ Fnd cs x k1) by rw [HK1.out.1, Fnd.more HCC.out]; exact ⟨fun h => (by cases h), fun h => h.elim HK.out.2.1.2 fun h => absurd h (by unfold pathOf; rw [if_neg h9]; split; exact fun e => hfx (Option.some.inj e); exact fun e => by cases e)⟩)
              clear hk hkn hn2 hq2 hk1 hc h9 h5 hfx
              go_wp2_with fail
              go_quiet (fail)
              go_wp2_with fail
              go_roundw
              case rel => exact ⟨k1, false, rfl, rfl, Lib.hid ⟨by have := HK1.out; omega, HEND.out, ⟨HK.out.2.2.os, HK.out.2.2.tape, HK.out.2.2.output, HK.out.2.2.size, HK.out.2.2.block⟩⟩⟩
              case measure => have := HK1.out; simp [intOf]; omega
          · have g5 : (c.name == 115) = false := by rw [beq_eq_false_iff_ne]; exact h5
            have HEND := Lib.hid (show (false = true ↔ Fnd cs x k1) by rw [HK1.out.1, Fnd.more HCC.out]; exact ⟨fun h => (by cases h), fun h => h.elim HK.out.2.1.2 fun h => absurd h (by unfold pathOf; rw [if_neg h9, if_neg (fun h => h5 h.1)]; exact fun e => by cases e)⟩)
            clear hk hkn hn2 hq2 hk1 hc h9 h5
            go_wp2_with fail
            go_quiet (fail)
            go_wp2_with fail
            go_roundw
            case rel => exact ⟨k1, false, rfl, rfl, Lib.hid ⟨by have := HK1.out; omega, HEND.out, ⟨HK.out.2.2.os, HK.out.2.2.tape, HK.out.2.2.output, HK.out.2.2.size, HK.out.2.2.block⟩⟩⟩
            case measure => have := HK1.out; simp [intOf]; omega
end Go.Proofs.Ythlkmlphbepnpaa

/-
  MatchLeftmost's walk. Conditions: the world holds what strings.Index asks, and the table of de Bruijn's numbers; the tree lies in memory.
-/
import Derived.Test.YtcbgbicdfpkikaaGreatDoorMst
import Derived.Test.YtcbgbicdfpkikaaGreatDoorMei
import Derived.Test.YtcbgbicdfpkikaaGreatDoorMcnt
import Derived.Test.YtcbgbicdfpkikaaGreatDoorMmeq
import Derived.Deep.Cut
import Derived.Deep.CutRange
import Derived.Deep.CutBlock
import Derived.BigGuard
namespace Go.Proofs.YtcbgbicdfpkikaaGreatDoor
open Go.RowKit Go.Deep Go.Sort

/-- What the law asks of a place. -/
def lm1 (th is : Bool) (i j F E : Int) : Bool := (th && !is) || (is && (th && (decide (i < F) || (i == F && decide (E < j)))))
def lm2 (th is : Bool) (i j F E : Int) : Bool := is && (i == F && (j == E && !th))
structure LmF (T : List UInt8) (t : PN) (n : Nat) (is : Bool) (F E : Int) : Prop where
  no : is = false → ∀ i j : Nat, n ≤ i → i ≤ T.length → semT T true t i j = false
  yes : is = true → ∃ a z : Nat, F = (a : Int) ∧ E = (z : Int) ∧ LL T.length n (semT T true t) a z
theorem LmF.of {T : List UInt8} {t : PN} {n : Nat} {is : Bool} {sp : Sp} (hT : T.length ≤ 1024) (hn : n ≤ T.length) (h : FindR T true t (n : Int) is sp) {F E : Int} (hs : sp 0 = (F, E)) : LmF T t n is F E := by
  rcases FindR.ll h hn hT with ⟨h1, _, h2⟩ | ⟨h1, a, z, h2, h3⟩
  · exact ⟨fun _ => h2, fun h => by rw [h1] at h; cases h⟩
  · rw [hs] at h2
    injection h2 with e1 e2
    exact ⟨(fun h => by rw [h1] at h; cases h), fun _ => ⟨a, z, e1, e2, h3⟩⟩
theorem LmF.lm1 {T : List UInt8} {t : PN} {n : Nat} {is : Bool} {F E : Int} (h : LmF T t n is F E) {i j : Nat} (hi : n ≤ i) (hiT : i ≤ T.length) : lm1 (semT T true t i j) is (i : Int) (j : Int) F E = false := by
  unfold Go.Proofs.YtcbgbicdfpkikaaGreatDoor.lm1
  cases is with
  | false => rw [h.no rfl i j hi hiT]; rfl
  | true =>
    obtain ⟨a, z, rfl, rfl, hl⟩ := h.yes rfl
    cases hs : semT T true t i j with
    | false => rfl
    | true =>
      have h1 : ¬ i < a := fun e => by have := hl.lm i j hi e; rw [hs] at this; cases this
      have h2 : i = a → ¬ z < j := fun e1 e2 => by have := hl.lg j e2; rw [← e1, hs] at this; cases this
      rw [decide_eq_false (show ¬ ((i : Int) < (a : Int)) by omega)]
      by_cases e : i = a
      · rw [decide_eq_false (show ¬ ((z : Int) < (j : Int)) by have := h2 e; omega)]
        simp
      · have : ((i : Int) == (a : Int)) = false := by rw [beq_eq_false_iff_ne]; omega
        rw [this]
        rfl
theorem LmF.lm2 {T : List UInt8} {t : PN} {n : Nat} {is : Bool} {F E : Int} (h : LmF T t n is F E) {i j : Nat} : lm2 (semT T true t i j) is (i : Int) (j : Int) F E = false := by
  unfold Go.Proofs.YtcbgbicdfpkikaaGreatDoor.lm2
  cases is with
  | false => rfl
  | true =>
    obtain ⟨a, z, rfl, rfl, hl⟩ := h.yes rfl
    by_cases e : i = a
    · by_cases e2 : j = z
      · subst e e2
        rw [hl.is]
        simp
      · have : ((j : Int) == (z : Int)) = false := by rw [beq_eq_false_iff_ne]; omega
        rw [this]
        simp
    · have : ((i : Int) == (a : Int)) = false := by rw [beq_eq_false_iff_ne]; omega
      rw [this]
      rfl
theorem isB_in {T : List UInt8} {b : Bool} {t : PN} {i j : Nat} (h : i ≤ j) (hj : j ≤ T.length) : isB T b t (i : Int) (j : Int) = semT T b t i j := by
  unfold isB
  rw [decide_eq_true (show (0 : Int) ≤ (i : Int) by omega), decide_eq_true (show (i : Int) ≤ (j : Int) by omega), decide_eq_true (show (j : Int) ≤ (T.length : Int) by omega)]
  rfl
theorem find_out {T : List UInt8} {b : Bool} {t : PN} {fr : Int} {ok : Bool} {sp : Sp} (h : FindR T b t fr ok sp) (hf : fr < 0 ∨ (T.length : Int) < fr) : ok = false ∧ sp = spI 0 := by
  rcases h with ⟨h1, h2, _⟩ | ⟨_, h1, _, i, z, h2, h3, h4, _⟩
  · exact ⟨h1, h2⟩
  · have := ((fit_T T b t) i z h4).1
    omega
set_option maxRecDepth 100000 in
set_option maxHeartbeats 8000000 in
theorem mleft_any (t : PN) (y : NV) (s : ByteArray) (fr : Int) (w : World) (hy : IsP (fun _ => False) w t y) (hM : MaxAt w) (hD : DebAt w) : Calls Tryz.prog 3 #[y.v, .string s, .int .i64 fr] w (TrueC w) := by
  have HA := Lib.hid fun (W : World) (hW : Below w.heap.size w W) => alive10_is W (hM.below hW) (hD.below hW)
  have HD := Lib.hid hD
  obtain ⟨W0, hW0⟩ : ∃ W0, W0 = w.alloc (.cells #[.int .i64 y.kind, .int .u64 (y.set 0), .int .u64 (y.set 1), .int .u64 (y.set 2), .int .u64 (y.set 3), .int .i64 y.lo, .int .i64 y.hi, .int .i64 y.num, .slice y.A y.n y.c] 28) := ⟨_, rfl⟩
  obtain ⟨b3, hb3⟩ : ∃ b, b = w.heap.size := ⟨_, rfl⟩
  have H0 := Lib.hid (show St w W0 [(b3, #[.int .i64 y.kind, .int .u64 (y.set 0), .int .u64 (y.set 1), .int .u64 (y.set 2), .int .u64 (y.set 3), .int .i64 y.lo, .int .i64 y.hi, .int .i64 y.num, .slice y.A y.n y.c], 28)] [(t, y)] from by rw [hW0, hb3]; exact ((St.start w).tree hy).box _ _)
  have hfw := few_is t (H0.out.tr 0 rfl)
  rw [NV.v_eq] at hfw ⊢
  have HFW := Lib.hid hfw
  obtain ⟨e0, e1, e2, e3, e4, e5, e6, e7, e8⟩ := node_box (H0.out.ob 0 rfl)
  have hle := lt_of_some (H0.out.ob 0 rfl)
  clear hM hD hy hfw
  go_enter Tryz.func3, Tryz.ntmps3
  go_upto_region 1 with fail
  rw [← hW0, ← hb3]
  clear hW0 hb3
  go_wp2_with fail
  go_at_call 14
  with_reducible refine HFW.out.mono ?_
  rintro e w1 ⟨ok0, rfl, hok0, hb1⟩
  have H1 := Lib.hid (show St w w1 [(b3, #[.int .i64 y.kind, .int .u64 (y.set 0), .int .u64 (y.set 1), .int .u64 (y.set 2), .int .u64 (y.set 3), .int .i64 y.lo, .int .i64 y.hi, .int .i64 y.num, .slice y.A y.n y.c], 28)] [(t, y)] from H0.out.next hb1)
  have HK := Lib.hid hok0
  clear hok0 hb1 e0 e1 e2 e3 e4 e5 e6 e7 e8 hle
  cases ok0 with
  | false =>
    go_wp2_with fail
    go_at_call 15
    with_reducible refine (HA.out _ H1.out.bel).mono ?_
    rintro e wz ⟨rfl, hb⟩
    have HBB := Lib.hid (H1.out.bel.trans (hb.mono H1.out.bel.size))
    clear hb
    go_wp2_with fail
    go_ret
    exact ⟨rfl, HBB.out⟩
  | true =>
  have hcn : cntN t ≤ 30 := HK.out rfl
  have HN := Lib.hid (show nodT t ≤ 100000 by have := nod_cntN t; omega)
  clear hcn
  by_cases h1 : 12 < s.size
  · have h3b : decide ((12 : Int) < (s.size : Int)) = true := decide_eq_true (by omega)
    have h3n : decide (12 < s.size) = true := decide_eq_true h1
    clear h1
    go_wp2_with fail
    go_at_call 15
    with_reducible refine (HA.out _ H1.out.bel).mono ?_
    rintro e wz ⟨rfl, hb⟩
    have HBB := Lib.hid (H1.out.bel.trans (hb.mono H1.out.bel.size))
    clear hb
    go_wp2_with fail
    go_ret
    exact ⟨rfl, HBB.out⟩
  have h3b : decide ((12 : Int) < (s.size : Int)) = false := decide_eq_false (by omega)
  have h3n : decide (12 < s.size) = false := decide_eq_false h1
  have HS := Lib.hid (show s.size ≤ 12 by omega)
  have HS2 := Lib.hid (show s.data.toList.length ≤ 1024 by show s.size ≤ 1024; omega)
  clear h1
  go_upto_region 4 with fail
  clear h3b h3n
  obtain ⟨e0, e1, e2, e3, e4, e5, e6, e7, e8⟩ := node_box (H1.out.ob 0 rfl)
  have hle := lt_of_some (H1.out.ob 0 rfl)
  have hfi := find_is (s := s) true fr (H1.out.tr 0 rfl) (HD.out.below H1.out.bel) (HN.out)
  rw [NV.v_eq] at hfi
  have HF := Lib.hid hfi
  clear hfi
  go_wp2_with fail
  go_at_call 16
  with_reducible refine HF.out.mono ?_
  rintro e w2 ⟨sp, is, rfl, hfr, hbf⟩
  rename_i hK
  refine hK _ _ ?_
  clear hK
  iterate 4
    refine wpList_plain rfl (fun K2 hK2 => ?_)
    go_simp
    refine hK2 _ _ ?_
    clear hK2 K2
    try simp only [Act.put, List.setIfInBounds_toArray, List.set_cons_zero, List.set_cons_succ]
  refine wpList_mat_store rfl (.tmp 8) (.tmp 28) rfl sp rfl rfl ?_
  clear e0 e1 e2 e3 e4 e5 e6 e7 e8 hle
  obtain ⟨W2, hW2⟩ : ∃ W2, W2 = w2.alloc (.cells (spC sp) 34) := ⟨_, rfl⟩
  obtain ⟨b8, hb8⟩ : ∃ b, b = w2.heap.size := ⟨_, rfl⟩
  have H2 := Lib.hid (show St w W2 [(b8, spC sp, 34), (b3, #[.int .i64 y.kind, .int .u64 (y.set 0), .int .u64 (y.set 1), .int .u64 (y.set 2), .int .u64 (y.set 3), .int .i64 y.lo, .int .i64 y.hi, .int .i64 y.num, .slice y.A y.n y.c], 28)] [(t, y)] from by rw [hW2, hb8]; exact (H1.out.next hbf).box _ _)
  have HX := Lib.hid hfr
  clear hfr hbf
  go_upto_region 5 with fail
  rw [← hW2, ← hb8]
  clear hW2 hb8
  obtain ⟨F, E, hFE⟩ : ∃ F E, sp 0 = (F, E) := ⟨_, _, rfl⟩
  by_cases h1 : fr < 0 ∨ (s.size : Int) < fr
  · obtain ⟨hi, hs⟩ := find_out HX.out h1
    subst hi hs
    by_cases h2 : fr < 0
    · have d1 : decide (fr < 0) = true := decide_eq_true h2
      clear h1 h2
      go_upto_region 6 with fail
      clear d1
      go_wp2_with fail
      go_at_call 15
      with_reducible refine (HA.out _ H2.out.bel).mono ?_
      rintro e wz ⟨rfl, hb⟩
      have H3 := Lib.hid (H2.out.next hb)
      have hme := mat_zero
      clear hb
      rename_i hK
      refine hK _ _ ?_
      clear hK
      iterate 5
        refine wpList_step fun K2 hK2 => ?_
        rw [if_pos (by kernel_rfl)]
        go_simp
        refine hK2 _ _ ?_
        clear hK2 K2
        try simp only [Act.put, List.setIfInBounds_toArray, List.set_cons_zero, List.set_cons_succ]
      refine wpList_step fun K2 hK2 => ?_
      rw [if_pos (by kernel_rfl)]
      refine wp_load_row 34 (.tmp 8) rfl b8 rfl 34 (spC (spI 0)) (0, 0) _ (H3.out.ob 0 rfl) Tryz.underlying34 rfl (by kernel_rfl) ?_
      refine hK2 _ _ ?_
      clear hK2 K2
      try simp only [Act.put, List.setIfInBounds_toArray, List.set_cons_zero, List.set_cons_succ]
      have HBB := Lib.hid H3.out.bel
      go_wp2_with fail
      go_ret
      exact ⟨rfl, HBB.out⟩
    · have d1 : decide (fr < 0) = false := decide_eq_false (by omega)
      have d2 : decide ((s.size : Int) < fr) = true := decide_eq_true (by omega)
      clear h1 h2
      go_upto_region 6 with fail
      clear d1 d2
      go_wp2_with fail
      go_at_call 15
      with_reducible refine (HA.out _ H2.out.bel).mono ?_
      rintro e wz ⟨rfl, hb⟩
      have H3 := Lib.hid (H2.out.next hb)
      have hme := mat_zero
      clear hb
      rename_i hK
      refine hK _ _ ?_
      clear hK
      iterate 5
        refine wpList_step fun K2 hK2 => ?_
        rw [if_pos (by kernel_rfl)]
        go_simp
        refine hK2 _ _ ?_
        clear hK2 K2
        try simp only [Act.put, List.setIfInBounds_toArray, List.set_cons_zero, List.set_cons_succ]
      refine wpList_step fun K2 hK2 => ?_
      rw [if_pos (by kernel_rfl)]
      refine wp_load_row 34 (.tmp 8) rfl b8 rfl 34 (spC (spI 0)) (0, 0) _ (H3.out.ob 0 rfl) Tryz.underlying34 rfl (by kernel_rfl) ?_
      refine hK2 _ _ ?_
      clear hK2 K2
      try simp only [Act.put, List.setIfInBounds_toArray, List.set_cons_zero, List.set_cons_succ]
      have HBB := Lib.hid H3.out.bel
      go_wp2_with fail
      go_ret
      exact ⟨rfl, HBB.out⟩
  obtain ⟨n, rfl⟩ : ∃ n : Nat, fr = (n : Int) := ⟨fr.toNat, by omega⟩
  have hns : n ≤ s.size := by omega
  have HN2 := Lib.hid hns
  have HL := Lib.hid (LmF.of HS2.out hns HX.out hFE)
  have d1 : decide ((n : Int) < 0) = false := decide_eq_false (by omega)
  have d2 : decide ((s.size : Int) < (n : Int)) = false := decide_eq_false (by omega)
  have d3 : decide (s.size < n) = false := decide_eq_false (by omega)
  have HFE := Lib.hid hFE
  clear h1 hns hFE
  go_upto_region 7 with fail
  clear d1 d2 d3
  go_wp2_with fail
  go_loopw [10, 11, 12] (fun iv _ _ wr => ∃ i : Nat, iv = .int .i64 (i : Int) ∧ n ≤ i ∧ i ≤ s.size + 1 ∧ Hid (St w wr [(b8, spC sp, 34), (b3, #[.int .i64 y.kind, .int .u64 (y.set 0), .int .u64 (y.set 1), .int .u64 (y.set 2), .int .u64 (y.set 3), .int .i64 y.lo, .int .i64 y.hi, .int .i64 y.num, .slice y.A y.n y.c], 28)] [(t, y)])) (fun iv _ _ _ => s.size + 1 - (intOf iv).toNat)
  case atStart => exact ⟨n, rfl, Nat.le_refl _, by have := HN2.out; omega, H2⟩
  case round =>
  obtain ⟨i, rfl, hni, his, HW⟩ := hrel
  have hib : i < 140737488355328 := by have := HS.out; omega
  have hi0 : (0 : Int) ≤ (i : Int) := by omega
  have HI := Lib.hid (And.intro hni his)
  clear hni his
  by_cases hlt : i ≤ s.size
  · have hiI : decide ((i : Int) ≤ (s.size : Int)) = true := decide_eq_true (by omega)
    have hiN : decide (i ≤ s.size) = true := decide_eq_true hlt
    have HLT := Lib.hid hlt
    clear hlt
    go_wp2_with fail
    go_loopw [11, 12] (fun jv _ wx => ∃ j : Nat, jv = .int .i64 (j : Int) ∧ i ≤ j ∧ j ≤ s.size + 1 ∧ Hid (St w wx [(b8, spC sp, 34), (b3, #[.int .i64 y.kind, .int .u64 (y.set 0), .int .u64 (y.set 1), .int .u64 (y.set 2), .int .u64 (y.set 3), .int .i64 y.lo, .int .i64 y.hi, .int .i64 y.num, .slice y.A y.n y.c], 28)] [(t, y)])) (fun jv _ _ => s.size + 1 - (intOf jv).toNat)
    case atStart => exact ⟨i, rfl, Nat.le_refl _, by have := HLT.out; omega, HW⟩
    case round =>
    obtain ⟨j, rfl, hij, hjs, HX2⟩ := hrel
    have hjb : j < 140737488355328 := by have := HS.out; omega
    have hj0 : (0 : Int) ≤ (j : Int) := by omega
    have HJ := Lib.hid (And.intro hij hjs)
    clear hij hjs
    by_cases hlj : j ≤ s.size
    · have hjI : decide ((j : Int) ≤ (s.size : Int)) = true := decide_eq_true (by omega)
      have hjN : decide (j ≤ s.size) = true := decide_eq_true hlj
      have HLJ := Lib.hid hlj
      obtain ⟨e0, e1, e2, e3, e4, e5, e6, e7, e8⟩ := node_box (HX2.out.ob 1 rfl)
      have hle := lt_of_some (HX2.out.ob 1 rfl)
      have hiz := is_is (s := s) true (i : Int) (j : Int) (HX2.out.tr 0 rfl) (HD.out.below HX2.out.bel) (by have := HS.out; omega) HN.out
      rw [isB_in HJ.out.1 (show j ≤ s.data.toList.length from hlj)] at hiz
      obtain ⟨th, hth⟩ : ∃ th, th = semT s.data.toList true t i j := ⟨_, rfl⟩
      have hl1 := HL.out.lm1 (i := i) (j := j) HI.out.1 HLT.out
      have hl2 := HL.out.lm2 (i := i) (j := j)
      rw [← hth] at hiz hl1 hl2
      rw [NV.v_eq] at hiz
      have HIZ := Lib.hid hiz
      have HLL := Lib.hid (And.intro hl1 hl2)
      clear hiz hl1 hl2 hth hlj
      go_wp2_with fail
      go_at_call 17
      with_reducible refine HIZ.out.mono ?_
      rintro e w5 ⟨rfl, hb5⟩
      have H5 := Lib.hid (HX2.out.next hb5)
      clear hb5 e0 e1 e2 e3 e4 e5 e6 e7 e8 hle
      obtain ⟨m0, m1⟩ := mat_box (H5.out.ob 0 rfl) HFE.out
      have ml := lt_of_some (H5.out.ob 0 rfl)
      go_upto_region 14 with fail
      go_cut [98] from 67 to 98 (fun t wx => t = .bool false ∧ wx = w5)
      case first =>
        cases is with
        | false =>
          cases th with
          | false =>
            go_wp2_with fail
            go_meet
            case rel => exact ⟨rfl, rfl⟩
          | true =>
            have := HLL.out.1
            simp [Go.Proofs.YtcbgbicdfpkikaaGreatDoor.lm1] at this
        | true =>
          cases th with
          | false =>
            go_wp2_with fail
            go_meet
            case rel => exact ⟨rfl, rfl⟩
          | true =>
            have hq := HLL.out.1
            simp only [Go.Proofs.YtcbgbicdfpkikaaGreatDoor.lm1, Bool.not_true, Bool.and_false, Bool.false_or, Bool.true_and, Bool.or_eq_false_iff] at hq
            obtain ⟨q1, q2⟩ := hq
            by_cases hF : (i : Int) = F
            · have q3 : ((i : Int) == F) = true := by rw [hF]; exact beq_self_eq_true _
              rw [q3, Bool.true_and] at q2
              clear hF
              go_wp2_with fail
              go_meet
              case rel => exact ⟨rfl, rfl⟩
            · have q3 : ((i : Int) == F) = false := beq_eq_false_iff_ne.2 hF
              clear hF q2
              go_wp2_with fail
              go_meet
              case rel => exact ⟨rfl, rfl⟩
      obtain ⟨rfl, hwc⟩ := hcut
      have hwc2 := hwc.symm
      clear hwc
      subst hwc2
      go_upto_region 16 with fail
      go_cut [117] from 99 to 117 (fun t wx => t = .bool false ∧ wx = w5)
      case first =>
        cases is with
        | false =>
          go_wp2_with fail
          go_meet
          case rel => exact ⟨rfl, rfl⟩
        | true =>
          by_cases hF : (i : Int) = F
          · have q3 : ((i : Int) == F) = true := by rw [hF]; exact beq_self_eq_true _
            by_cases hE : (j : Int) = E
            · have q4 : ((j : Int) == E) = true := by rw [hE]; exact beq_self_eq_true _
              have hq := HLL.out.2
              simp only [Go.Proofs.YtcbgbicdfpkikaaGreatDoor.lm2, q3, q4, Bool.true_and, Bool.not_eq_false'] at hq
              subst hq
              clear hF hE
              go_wp2_with fail
              go_meet
              case rel => exact ⟨rfl, rfl⟩
            · have q4 : ((j : Int) == E) = false := beq_eq_false_iff_ne.2 hE
              clear hF hE
              go_wp2_with fail
              go_meet
              case rel => exact ⟨rfl, rfl⟩
          · have q3 : ((i : Int) == F) = false := beq_eq_false_iff_ne.2 hF
            clear hF
            go_wp2_with fail
            go_meet
            case rel => exact ⟨rfl, rfl⟩
      obtain ⟨rfl, hwc⟩ := hcut
      have hwc2 := hwc.symm
      clear hwc
      subst hwc2
      clear m0 m1 ml
      go_wp2_with fail
      go_roundw
      case rel => exact ⟨j + 1, by go_num, by have := HJ.out.1; omega, by have := HLJ.out; omega, H5⟩
      case measure => have := HLJ.out; simp [intOf]; omega
    · have hjI : decide ((j : Int) ≤ (s.size : Int)) = false := decide_eq_false (by omega)
      have hjN : decide (j ≤ s.size) = false := decide_eq_false hlj
      clear hlj
      go_wp2_with fail
      go_roundw
      case rel => exact ⟨i + 1, by go_num, by have := HI.out.1; omega, by have := HLT.out; omega, HX2⟩
      case measure => have := HLT.out; simp [intOf]; omega
  · have hiI : decide ((i : Int) ≤ (s.size : Int)) = false := decide_eq_false (by omega)
    have hiN : decide (i ≤ s.size) = false := decide_eq_false hlt
    clear hlt
    cases is with
    | false =>
      go_wp2_with fail
      go_at_call 15
      with_reducible refine (HA.out _ HW.out.bel).mono ?_
      rintro e wz ⟨rfl, hb⟩
      have HBB := Lib.hid (HW.out.bel.trans (hb.mono HW.out.bel.size))
      clear hb
      go_wp2_with fail
      go_ret
      exact ⟨rfl, HBB.out⟩
    | true =>
      obtain ⟨a, z, rfl, rfl, hl⟩ := HL.out.yes rfl
      have g1 : decide ((n : Int) ≤ (a : Int)) = true := decide_eq_true (by have := hl.fi; omega)
      have g1n : decide (n ≤ a) = true := decide_eq_true hl.fi
      have g2 : decide ((a : Int) ≤ (z : Int)) = true := decide_eq_true (by have := hl.iz; omega)
      have g2n : decide (a ≤ z) = true := decide_eq_true hl.iz
      have hzs : z ≤ s.size := hl.zN
      have g3 : decide ((z : Int) ≤ (s.size : Int)) = true := decide_eq_true (by omega)
      have g3n : decide (z ≤ s.size) = true := decide_eq_true hzs
      clear hl hzs
      go_wp2_with fail
      go_at_call 15
      with_reducible refine (HA.out _ HW.out.bel).mono ?_
      rintro e wz ⟨rfl, hb⟩
      have HW9 := Lib.hid (HW.out.next hb)
      obtain ⟨p0, p1⟩ := mat_box (HW9.out.ob 0 rfl) HFE.out
      have pl := lt_of_some (HW9.out.ob 0 rfl)
      have HBB := Lib.hid (HW.out.bel.trans (hb.mono HW.out.bel.size))
      clear hb
      go_wp2_with fail
      go_ret
      exact ⟨rfl, HBB.out⟩
end Go.Proofs.YtcbgbicdfpkikaaGreatDoor

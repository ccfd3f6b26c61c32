/-
  MatchRounds' walk. Conditions: the world holds what strings.Index asks, and the table of de Bruijn's numbers.
-/
import Derived.Test.YtcbgbicdfpkikaaGreatDoorMrdp
import Derived.Test.YtcbgbicdfpkikaaGreatDoorMmeq
import Derived.Deep.Cut
import Derived.Deep.CutRange
import Derived.BigGuard
namespace Go.Proofs.YtcbgbicdfpkikaaGreatDoor
open Go.RowKit Go.Deep Go.Sort

theorem ne_of_size {p : ByteArray} (h : 0 < p.size) : p.data.toList ≠ [] := fun e => by
  have h2 : p.data.toList.length = p.size := by simp
  rw [e] at h2
  simp at h2
  omega
set_option maxRecDepth 100000 in
set_option maxHeartbeats 8000000 in
theorem mrounds_any (p s : ByteArray) (a b : Int) (w : World) (hM : MaxAt w) (hD : DebAt w) : Calls Tryz.prog 6 #[.string p, .string s, .agg #[.int .i64 a, .int .i64 b]] w (TrueC w) := by
  have HA := Lib.hid fun (W : World) (hW : Below w.heap.size w W) => alive10_is W (hM.below hW) (hD.below hW)
  have HD := Lib.hid hD
  obtain ⟨W0, hW0⟩ : ∃ W0, W0 = w.alloc (.cells #[.int .i64 a, .int .i64 b] 46) := ⟨_, rfl⟩
  obtain ⟨b5, hb5⟩ : ∃ b, b = w.heap.size := ⟨_, rfl⟩
  have H0 := Lib.hid (show St w W0 [(b5, #[.int .i64 a, .int .i64 b], 46)] [] from by rw [hW0, hb5]; exact (St.start w).box _ _)
  obtain ⟨k0, k1, _, _, kl⟩ := box_all (H0.out.ob 0 rfl)
  clear hM hD
  go_enter Tryz.func6, Tryz.ntmps6
  go_upto_region 1 with fail
  rw [← hW0, ← hb5]
  clear hW0 hb5
  by_cases h0 : a < 0
  · have g0a : decide (a < 0) = true := decide_eq_true (by omega)
    clear h0
    go_wp2_with fail
    go_at_call 15
    with_reducible refine (HA.out _ H0.out.bel).mono ?_
    rintro e wz ⟨rfl, hb⟩
    have HBB := Lib.hid (H0.out.bel.trans (hb.mono H0.out.bel.size))
    clear hb
    go_wp2_with fail
    go_ret
    exact ⟨rfl, HBB.out⟩
  have g0a : decide (a < 0) = false := decide_eq_false (by omega)
  by_cases h1 : b < 0
  · have g1a : decide (b < 0) = true := decide_eq_true (by omega)
    clear h0 h1
    go_wp2_with fail
    go_at_call 15
    with_reducible refine (HA.out _ H0.out.bel).mono ?_
    rintro e wz ⟨rfl, hb⟩
    have HBB := Lib.hid (H0.out.bel.trans (hb.mono H0.out.bel.size))
    clear hb
    go_wp2_with fail
    go_ret
    exact ⟨rfl, HBB.out⟩
  have g1a : decide (b < 0) = false := decide_eq_false (by omega)
  by_cases h2 : 6 < a
  · have g2a : decide ((6 : Int) < a) = true := decide_eq_true (by omega)
    clear h0 h1 h2
    go_wp2_with fail
    go_at_call 15
    with_reducible refine (HA.out _ H0.out.bel).mono ?_
    rintro e wz ⟨rfl, hb⟩
    have HBB := Lib.hid (H0.out.bel.trans (hb.mono H0.out.bel.size))
    clear hb
    go_wp2_with fail
    go_ret
    exact ⟨rfl, HBB.out⟩
  have g2a : decide ((6 : Int) < a) = false := decide_eq_false (by omega)
  by_cases h3 : 6 < b
  · have g3a : decide ((6 : Int) < b) = true := decide_eq_true (by omega)
    clear h0 h1 h2 h3
    go_wp2_with fail
    go_at_call 15
    with_reducible refine (HA.out _ H0.out.bel).mono ?_
    rintro e wz ⟨rfl, hb⟩
    have HBB := Lib.hid (H0.out.bel.trans (hb.mono H0.out.bel.size))
    clear hb
    go_wp2_with fail
    go_ret
    exact ⟨rfl, HBB.out⟩
  have g3a : decide ((6 : Int) < b) = false := decide_eq_false (by omega)
  by_cases h4 : 12 < s.size
  · have g4a : decide ((12 : Int) < (s.size : Int)) = true := decide_eq_true (by omega)
    have g4b : decide (12 < s.size) = true := decide_eq_true (by omega)
    clear h0 h1 h2 h3 h4
    go_wp2_with fail
    go_at_call 15
    with_reducible refine (HA.out _ H0.out.bel).mono ?_
    rintro e wz ⟨rfl, hb⟩
    have HBB := Lib.hid (H0.out.bel.trans (hb.mono H0.out.bel.size))
    clear hb
    go_wp2_with fail
    go_ret
    exact ⟨rfl, HBB.out⟩
  have g4a : decide ((12 : Int) < (s.size : Int)) = false := decide_eq_false (by omega)
  have g4b : decide (12 < s.size) = false := decide_eq_false (by omega)
  by_cases h5 : 3 < p.size
  · have g5a : decide ((3 : Int) < (p.size : Int)) = true := decide_eq_true (by omega)
    have g5b : decide (3 < p.size) = true := decide_eq_true (by omega)
    clear h0 h1 h2 h3 h4 h5
    go_wp2_with fail
    go_at_call 15
    with_reducible refine (HA.out _ H0.out.bel).mono ?_
    rintro e wz ⟨rfl, hb⟩
    have HBB := Lib.hid (H0.out.bel.trans (hb.mono H0.out.bel.size))
    clear hb
    go_wp2_with fail
    go_ret
    exact ⟨rfl, HBB.out⟩
  have g5a : decide ((3 : Int) < (p.size : Int)) = false := decide_eq_false (by omega)
  have g5b : decide (3 < p.size) = false := decide_eq_false (by omega)
  by_cases h6 : p.size = 0
  · have g6a : ((p.size : Int) == 0) = true := by rw [h6]; rfl
    have g6b : (p.size == 0) = true := by rw [h6]; rfl
    clear h0 h1 h2 h3 h4 h5 h6
    go_wp2_with fail
    go_at_call 15
    with_reducible refine (HA.out _ H0.out.bel).mono ?_
    rintro e wz ⟨rfl, hb⟩
    have HBB := Lib.hid (H0.out.bel.trans (hb.mono H0.out.bel.size))
    clear hb
    go_wp2_with fail
    go_ret
    exact ⟨rfl, HBB.out⟩
  have g6a : ((p.size : Int) == 0) = false := by rw [beq_eq_false_iff_ne]; omega
  have g6b : (p.size == 0) = false := by rw [beq_eq_false_iff_ne]; exact h6
  obtain ⟨na, rfl⟩ : ∃ n : Nat, a = (n : Int) := ⟨a.toNat, by omega⟩
  obtain ⟨nb, rfl⟩ : ∃ n : Nat, b = (n : Int) := ⟨b.toNat, by omega⟩
  have gna : decide (6 < na) = false := decide_eq_false (by omega)
  have gnb : decide (6 < nb) = false := decide_eq_false (by omega)
  have HAB := Lib.hid (And.intro (show na ≤ 6 by omega) (And.intro (show nb ≤ 6 by omega) (And.intro (show s.size ≤ 12 by omega) (And.intro (show p.size ≤ 3 by omega) (show 0 < p.size by omega)))))
  clear h0 h1 h2 h3 h4 h5 h6
  go_upto_region 5 with fail
  clear g0a g1a g2a g3a g4a g4b g5a g5b g6a g6b gna gnb k0 k1 kl
  go_wp2_with fail
  go_loopw [9, 10, 11] (fun kv iv _ wr => ∃ i : Nat, iv = .int .i64 (i : Int) ∧ Hid (RdA W0 wr p i kv)) (fun _ iv _ _ => p.size - (intOf iv).toNat)
  case atStart => exact ⟨0, rfl, Lib.hid (RdA.start W0 p)⟩
  case round =>
  obtain ⟨i, rfl, HR⟩ := hrel
  have hib : i < 140737488355328 := by have := HR.out.le; have := HAB.out.2.2.2.1; omega
  have hi0 : (0 : Int) ≤ (i : Int) := by omega
  by_cases hlt : i < p.size
  · have hiI : (i : Int) < (p.size : Int) := by omega
    obtain ⟨c, hc⟩ : ∃ c, c = p[i].toNat := ⟨_, rfl⟩
    have hv := bit_place (v := c) (by rw [hc]; exact UInt8.toNat_lt _)
    obtain ⟨q, hq⟩ : ∃ q, q = c / 64 := ⟨_, rfl⟩
    obtain ⟨r, hr⟩ : ∃ r, r = c % 64 := ⟨_, rfl⟩
    rw [← hq, ← hr] at hv
    obtain ⟨hdv, hmd, hq4, hr64⟩ := hv
    rw [hc] at hdv hmd
    have HCQ := Lib.hid (And.intro hc (And.intro hq hr))
    have HLT := Lib.hid hlt
    have hqI : (q : Int) < 4 := by omega
    have hq0 : (0 : Int) ≤ (q : Int) := by omega
    have hr0 : (0 : Int) ≤ (r : Int) := by omega
    have hrI : (r : Int) < 64 := by omega
    clear hc hq hr
    go_upto_region 10 with fail
    go_region
    obtain ⟨T, hT⟩ : ∃ T, T = bitS p[i].toNat := ⟨_, rfl⟩
    rw [set_bit HCQ.out.1 HCQ.out.2.1 HCQ.out.2.2 hT]
    obtain ⟨W1, hW1⟩ : ∃ W, W = (wr.alloc (.cells #[.int .u64 (T 0), .int .u64 (T 1), .int .u64 (T 2), .int .u64 (T 3)] 25)).drew := ⟨_, rfl⟩
    obtain ⟨b11, hb11⟩ : ∃ b, b = wr.heap.size := ⟨_, rfl⟩
    have hbw : Below wr.heap.size wr W1 := by rw [hW1]; exact (bA wr _).drew
    have ho11 : W1.heap[b11]? = some (.cells #[.int .u64 (T 0), .int .u64 (T 1), .int .u64 (T 2), .int .u64 (T 3)] 25 (0, 0)) := by rw [hW1, hb11]; exact heap_alloc_new wr _
    obtain ⟨k0, k1, k2, k3⟩ : W1.cell? ⟨b11, 0, none⟩ = some (.int .u64 (T 0)) ∧ W1.cell? ⟨b11, 1, none⟩ = some (.int .u64 (T 1)) ∧ W1.cell? ⟨b11, 2, none⟩ = some (.int .u64 (T 2)) ∧ W1.cell? ⟨b11, 3, none⟩ = some (.int .u64 (T 3)) := by
      refine ⟨?_, ?_, ?_, ?_⟩ <;> (rw [obj_cell ho11]; rfl)
    have kl := lt_of_some ho11
    have HW := Lib.hid (HR.out.step (W3 := W1.alloc (.cells #[.int .i64 1, .int .u64 (T 0), .int .u64 (T 1), .int .u64 (T 2), .int .u64 (T 3), .int .i64 0, .int .i64 0, .int .i64 0, .slice none 0 0] 28)) hlt (by have := HAB.out.2.2.2.1; omega) (hbw.alloc hbw.size _) (A := some ⟨W1.heap.size, 0, none⟩) (by
      have h := (raw_of_obj (xs := [⟨1, T, 0, 0, 0, none, 0, 0⟩]) (heap_alloc_new W1 (.cells #[.int .i64 1, .int .u64 (T 0), .int .u64 (T 1), .int .u64 (T 2), .int .u64 (T 3), .int .i64 0, .int .i64 0, .int .i64 0, .slice none 0 0] 28)) rfl).raw
      rw [hT] at h
      rw [hT]
      exact h))
    rw [← hW1, ← hb11]
    have HTT := Lib.hid hT
    clear hW1 hb11 hbw ho11 hT
    go_wp2_with (refine wpList_append_raw 73 (nsV [bitV p[i]]) elem_node HW.out.1 HW.out.2.1 rfl oneCell_nsV rfl rfl HW.out.2.2.2.1 HW.out.2.2.1 ?_)
    intro v' w4 hr hA _
    have HN := Lib.hid (HW.out.2.2.2.2 v' w4 hr hA)
    clear hr hA k0 k1 k2 k3 kl
    go_wp2_with fail
    go_roundw
    case rel => exact ⟨i + 1, by go_num, HN⟩
    case measure => have := HLT.out; simp [intOf]; omega
  · have hiI : ¬ (i : Int) < (p.size : Int) := by omega
    have hie : i = p.size := by have := HR.out.le; omega
    subst hie
    obtain ⟨A, c, rfl, hz⟩ := HR.out.is
    clear hlt
    go_upto_region 13 with fail
    have Hr := Lib.hid ((H0.out.next HR.out.bel).tree hz)
    clear hz
    obtain ⟨Wa, hWa⟩ : ∃ W, W = wr.alloc (.cells #[.int .i64 2, .int .u64 0, .int .u64 0, .int .u64 0, .int .u64 0, .int .i64 0, .int .i64 0, .int .i64 0, .slice A p.size c] 28) := ⟨_, rfl⟩
    obtain ⟨gk, hgk⟩ : ∃ b, b = wr.heap.size := ⟨_, rfl⟩
    have Ha := Lib.hid (show St w Wa [(gk, #[.int .i64 2, .int .u64 0, .int .u64 0, .int .u64 0, .int .u64 0, .int .i64 0, .int .i64 0, .int .i64 0, .slice A p.size c], 28), (b5, #[.int .i64 (na : Int), .int .i64 (nb : Int)], 46)] [(roundT p.data.toList, ⟨2, noS, 0, 0, 0, A, p.size, c⟩)] from by rw [hWa, hgk]; exact Hr.out.box _ _)
    rw [← hWa, ← hgk]
    clear hWa hgk
    go_upto_region 14 with fail
    obtain ⟨g2, hg2⟩ : ∃ b, b = Wa.heap.size := ⟨_, rfl⟩
    obtain ⟨b13, hb13⟩ : ∃ b, b = Wa.heap.size + 1 := ⟨_, rfl⟩
    have hc0 := (Ha.out.box #[.int .i64 4, .int .u64 0, .int .u64 0, .int .u64 0, .int .u64 0, .int .i64 (na : Int), .int .i64 (na : Int), .int .i64 0, .slice (some ⟨gk, 0, none⟩) 1 1, .int .i64 4, .int .u64 0, .int .u64 0, .int .u64 0, .int .u64 0, .int .i64 (nb : Int), .int .i64 (nb : Int), .int .i64 0, .slice (some ⟨gk, 0, none⟩) 1 1] 28).box #[.int .i64 2, .int .u64 0, .int .u64 0, .int .u64 0, .int .u64 0, .int .i64 0, .int .i64 0, .int .i64 0, .slice (some ⟨Wa.heap.size, 0, none⟩) 2 2] 28
    rw [World.size_alloc] at hc0
    rw [← hb13, ← hg2] at hc0
    obtain ⟨Wc, hWc⟩ : ∃ W, W = (Wa.alloc (.cells #[.int .i64 4, .int .u64 0, .int .u64 0, .int .u64 0, .int .u64 0, .int .i64 (na : Int), .int .i64 (na : Int), .int .i64 0, .slice (some ⟨gk, 0, none⟩) 1 1, .int .i64 4, .int .u64 0, .int .u64 0, .int .u64 0, .int .u64 0, .int .i64 (nb : Int), .int .i64 (nb : Int), .int .i64 0, .slice (some ⟨gk, 0, none⟩) 1 1] 28)).alloc (.cells #[.int .i64 2, .int .u64 0, .int .u64 0, .int .u64 0, .int .u64 0, .int .i64 0, .int .i64 0, .int .i64 0, .slice (some ⟨g2, 0, none⟩) 2 2] 28) := ⟨_, rfl⟩
    rw [← hb13, ← hg2, ← hWc]
    rw [← hWc] at hc0
    have Hc := Lib.hid hc0
    clear hWc hb13 hg2 hc0
    obtain ⟨ns, hns⟩ : ∃ n, n = na + nb := ⟨_, rfl⟩
    have hadd : IntKind.i64.wrap ((na : Int) + (nb : Int)) = (ns : Int) := by rw [IntWalk.i64_in _ (by have := HAB.out; omega)]; omega
    have HNS := Lib.hid hns
    clear hns
    go_upto_region 15 with fail
    obtain ⟨b14, hb14⟩ : ∃ b, b = Wc.heap.size := ⟨_, rfl⟩
    obtain ⟨Wd, hWd⟩ : ∃ W, W = Wc.alloc (.cells #[.int .i64 4, .int .u64 0, .int .u64 0, .int .u64 0, .int .u64 0, .int .i64 (ns : Int), .int .i64 (ns : Int), .int .i64 0, .slice (some ⟨gk, 0, none⟩) 1 1] 28) := ⟨_, rfl⟩
    have hd0 := Hc.out.box #[.int .i64 4, .int .u64 0, .int .u64 0, .int .u64 0, .int .u64 0, .int .i64 (ns : Int), .int .i64 (ns : Int), .int .i64 0, .slice (some ⟨gk, 0, none⟩) 1 1] 28
    rw [← hWd, ← hb14] at hd0
    rw [← hWd, ← hb14]
    have hj1 := just_is (hd0.tr 0 rfl) (hd0.ob 3 rfl) rfl na (na : Int) rfl
    have hj2 := just_is (hd0.tr 0 rfl) (hd0.ob 3 rfl) rfl nb (nb : Int) rfl
    have hj3 := just_is (hd0.tr 0 rfl) (hd0.ob 3 rfl) rfl (na + nb) (ns : Int) (by rw [HNS.out])
    have htw := twice_is hj1 hj2 (hd0.ob 2 rfl) rfl
    have Hd := Lib.hid ((hd0.tree hj3).tree htw)
    have HLL := Lib.hid (show p.data.toList.length ≤ 3 from HAB.out.2.2.2.1)
    have HNE := Lib.hid (ne_of_size HAB.out.2.2.2.2)
    have HT := Lib.hid (show s.data.toList.length ≤ 1024 by show s.size ≤ 1024; have := HAB.out.2.2.1; omega)
    clear hWd hb14 hd0 hj1 hj2 hj3 htw hadd
    obtain ⟨e0, e1, e2, e3, e4, e5, e6, e7, e8⟩ : Wd.cell? ⟨b13, 0, none⟩ = some (.int .i64 2) ∧ Wd.cell? ⟨b13, 1, none⟩ = some (.int .u64 0) ∧ Wd.cell? ⟨b13, 2, none⟩ = some (.int .u64 0) ∧ Wd.cell? ⟨b13, 3, none⟩ = some (.int .u64 0) ∧ Wd.cell? ⟨b13, 4, none⟩ = some (.int .u64 0) ∧ Wd.cell? ⟨b13, 5, none⟩ = some (.int .i64 0) ∧ Wd.cell? ⟨b13, 6, none⟩ = some (.int .i64 0) ∧ Wd.cell? ⟨b13, 7, none⟩ = some (.int .i64 0) ∧ Wd.cell? ⟨b13, 8, none⟩ = some (.slice (some ⟨g2, 0, none⟩) 2 2) := by
      refine ⟨?_, ?_, ?_, ?_, ?_, ?_, ?_, ?_, ?_⟩ <;> (rw [obj_cell (Hd.out.ob 1 rfl)]; rfl)
    have hle := lt_of_some (Hd.out.ob 1 rfl)
    have hfi := find_is (s := s) true 0 (Hd.out.tr 0 rfl) (HD.out.below Hd.out.bel) (by have := both_nods HLL.out na nb; omega)
    have hfi2 : Calls Tryz.prog 16 #[.agg #[.int .i64 2, .int .u64 0, .int .u64 0, .int .u64 0, .int .u64 0, .int .i64 0, .int .i64 0, .int .i64 0, .slice (some ⟨g2, 0, none⟩) 2 2], .string s, .int .i64 0, .bool true] Wd (FindE s.data.toList true (bothT na nb p.data.toList) 0 Wd) := hfi
    have HF := Lib.hid hfi2
    clear hfi hfi2
    go_wp2_with fail
    go_at_call 16
    with_reducible refine HF.out.mono ?_
    rintro e w6 ⟨sx, is, rfl, hfr, hbf⟩
    rename_i hK
    refine hK _ _ ?_
    clear hK
    iterate 4
      refine wpList_plain rfl (fun K2 hK2 => ?_)
      go_simp
      refine hK2 _ _ ?_
      clear hK2 K2
      try simp only [Act.put, List.setIfInBounds_toArray, List.set_cons_zero, List.set_cons_succ]
    refine wpList_mat_store rfl (.tmp 15) (.tmp 99) rfl sx rfl rfl ?_
    clear e0 e1 e2 e3 e4 e5 e6 e7 e8 hle
    obtain ⟨W6, hW6⟩ : ∃ W6, W6 = w6.alloc (.cells (spC sx) 34) := ⟨_, rfl⟩
    obtain ⟨b15, hb15⟩ : ∃ b, b = w6.heap.size := ⟨_, rfl⟩
    have hH60 := (Hd.out.next hbf).box (spC sx) 34
    rw [← hW6, ← hb15] at hH60
    have H6 := Lib.hid hH60
    clear hH60
    have HX := Lib.hid hfr
    clear hfr hbf
    go_upto_region 16 with fail
    rw [← hW6, ← hb15]
    clear hW6 hb15
    obtain ⟨e0, e1, e2, e3, e4, e5, e6, e7, e8⟩ : W6.cell? ⟨b14, 0, none⟩ = some (.int .i64 4) ∧ W6.cell? ⟨b14, 1, none⟩ = some (.int .u64 0) ∧ W6.cell? ⟨b14, 2, none⟩ = some (.int .u64 0) ∧ W6.cell? ⟨b14, 3, none⟩ = some (.int .u64 0) ∧ W6.cell? ⟨b14, 4, none⟩ = some (.int .u64 0) ∧ W6.cell? ⟨b14, 5, none⟩ = some (.int .i64 (ns : Int)) ∧ W6.cell? ⟨b14, 6, none⟩ = some (.int .i64 (ns : Int)) ∧ W6.cell? ⟨b14, 7, none⟩ = some (.int .i64 0) ∧ W6.cell? ⟨b14, 8, none⟩ = some (.slice (some ⟨gk, 0, none⟩) 1 1) := by
      refine ⟨?_, ?_, ?_, ?_, ?_, ?_, ?_, ?_, ?_⟩ <;> (rw [obj_cell (H6.out.ob 1 rfl)]; rfl)
    have hle := lt_of_some (H6.out.ob 1 rfl)
    have hfi := find_is (s := s) true 0 (H6.out.tr 1 rfl) (HD.out.below H6.out.bel) (by have := just_nods HLL.out (na + nb); omega)
    have hfi2 : Calls Tryz.prog 16 #[.agg #[.int .i64 4, .int .u64 0, .int .u64 0, .int .u64 0, .int .u64 0, .int .i64 (ns : Int), .int .i64 (ns : Int), .int .i64 0, .slice (some ⟨gk, 0, none⟩) 1 1], .string s, .int .i64 0, .bool true] W6 (FindE s.data.toList true (justT (na + nb) p.data.toList) 0 W6) := hfi
    have HF := Lib.hid hfi2
    clear hfi hfi2
    go_wp2_with fail
    go_at_call 16
    with_reducible refine HF.out.mono ?_
    rintro e w7 ⟨sy, has, rfl, hfr, hbf⟩
    rename_i hK
    refine hK _ _ ?_
    clear hK
    iterate 4
      refine wpList_plain rfl (fun K2 hK2 => ?_)
      go_simp
      refine hK2 _ _ ?_
      clear hK2 K2
      try simp only [Act.put, List.setIfInBounds_toArray, List.set_cons_zero, List.set_cons_succ]
    refine wpList_mat_store rfl (.tmp 17) (.tmp 105) rfl sy rfl rfl ?_
    clear e0 e1 e2 e3 e4 e5 e6 e7 e8 hle
    obtain ⟨W7, hW7⟩ : ∃ W7, W7 = w7.alloc (.cells (spC sy) 34) := ⟨_, rfl⟩
    obtain ⟨b17, hb17⟩ : ∃ b, b = w7.heap.size := ⟨_, rfl⟩
    have hH70 := (H6.out.next hbf).box (spC sy) 34
    rw [← hW7, ← hb17] at hH70
    have H7 := Lib.hid hH70
    clear hH70
    have hsm := rounds_find HNE.out HT.out HX.out hfr
    clear hfr hbf
    go_upto_region 17 with fail
    rw [← hW7, ← hb17]
    clear hW7 hb17
    obtain ⟨rfl, rfl⟩ := hsm
    go_wp2_with fail
    go_at_call 15
    with_reducible refine (HA.out _ H7.out.bel).mono ?_
    rintro e wz ⟨rfl, hb⟩
    have H8 := Lib.hid (H7.out.next hb)
    have hme : ∀ W : World, (Op.equalIn 10000 34 (.agg (spC sx)) (.agg (spC sx))).run Tryz.prog W = .ok true W := fun W => by rw [match_eq, sameM_self]
    clear hb
    rename_i hK
    refine hK _ _ ?_
    clear hK
    refine wpList_step fun K2 hK2 => ?_
    rw [if_pos (by kernel_rfl)]
    go_simp
    refine hK2 _ _ ?_
    clear hK2 K2
    try simp only [Act.put, List.setIfInBounds_toArray, List.set_cons_zero, List.set_cons_succ]
    refine wpList_step fun K2 hK2 => ?_
    rw [if_pos (by kernel_rfl)]
    refine wp_load_row 34 (.tmp 15) rfl b15 rfl 34 (spC sx) (0, 0) _ (H8.out.ob 1 rfl) Tryz.underlying34 rfl (by kernel_rfl) ?_
    refine hK2 _ _ ?_
    clear hK2 K2
    try simp only [Act.put, List.setIfInBounds_toArray, List.set_cons_zero, List.set_cons_succ]
    refine wpList_step fun K2 hK2 => ?_
    rw [if_pos (by kernel_rfl)]
    refine wp_load_row 34 (.tmp 17) rfl b17 rfl 34 (spC sx) (0, 0) _ (H8.out.ob 0 rfl) Tryz.underlying34 rfl (by kernel_rfl) ?_
    refine hK2 _ _ ?_
    clear hK2 K2
    try simp only [Act.put, List.setIfInBounds_toArray, List.set_cons_zero, List.set_cons_succ]
    have HBB := Lib.hid H8.out.bel
    cases is with
    | false =>
      go_wp2_with fail
      go_ret
      exact ⟨rfl, HBB.out⟩
    | true =>
      go_wp2_with fail
      go_ret
      exact ⟨rfl, HBB.out⟩
end Go.Proofs.YtcbgbicdfpkikaaGreatDoor

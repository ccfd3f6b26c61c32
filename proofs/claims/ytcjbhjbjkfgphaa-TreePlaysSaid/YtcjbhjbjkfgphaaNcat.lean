/-
  Rows joined, copied and cut anew: the library's Grow, Concat and Clone, and the program's spliced, of files and of nodes. Conditions: at most three rows of at most 4096 elements each.
-/
import Derived.Test.YtcjbhjbjkfgphaaNraw
import Derived.Deep.QuietTactic
import Derived.BigQuiet
import Derived.Deep.RegionHeld3
namespace Go.Proofs.Ytcjbhjbjkfgphaa
open Go.RowKit Go.Deep

def OwnNew (e : TypeId) (sz n : Nat) (vs : List Value) (w : World) (en : Ending) (w' : World) : Prop := ∃ v, en = .returned v ∧ w'.ownsRow w.heap.size e sz v n vs ∧ Below w.heap.size w w'

set_option maxRecDepth 100000 in
set_option maxHeartbeats 2000000 in
theorem grow_file_nil (w : World) : Calls Try.prog 70 #[.slice none 0 0, .int .i64 0] w fun e w' => e = .returned (.slice none 0 0) ∧ w = w' := by
  go_enter Try.func70, Try.ntmps70
  go_wp2_with fail
  go_ret
  exact ⟨rfl, rfl⟩
set_option maxRecDepth 100000 in
set_option maxHeartbeats 2000000 in
theorem grow_file_some (n : Nat) (w : World) (h0 : 0 < n) (hn : n ≤ 16384) : Calls Try.prog 70 #[.slice none 0 0, .int .i64 (n : Int)] w (OwnNew 68 3 0 [] w) := by
  obtain ⟨i, z, hi, hz, hsz, hby, hzs⟩ := elem_file.info
  have hap := Lib.run_append_nil_zeros (P := Try.prog) w 74 3 74 68 i z .i64 .i64 Try.underlying74 Try.underlying3 hi hz n h0 (by omega) (by omega) (by rw [hby]; omega)
  obtain ⟨cap, ecap⟩ : ∃ cap, cap = grownCap w n 0 68 := ⟨_, rfl⟩
  rw [← ecap] at hap
  have hcap : n ≤ cap := by rw [ecap]; exact grownCap_ge w n 0 _
  have hcapm : cap ≤ maxLen := by rw [ecap]; exact grownCap_le_maxLen w n 0 _ (by unfold maxLen; omega)
  obtain ⟨cur, ecur⟩ : ∃ cur, cur = Builtin.zeroCells z.cells n ++ Builtin.zeroCells z.cells (cap - n) := ⟨_, rfl⟩
  rw [← ecur] at hap
  have hcs : cur.size = cap * 3 := by
    rw [ecur]
    simp only [Builtin.zeroCells, Array.size_append, Array.size_map, Array.size_range, hzs]
    omega
  have HOWN := Lib.hid (World.ownsRow_made (base := w.heap.size) (e := 68) (size := 3) w.drew cur cap (Nat.le_refl _) hcapm hcs)
  have HB := Lib.hid (((Below.refl w.heap.size w).drew).alloc (Nat.le_refl _) (.cells cur 68))
  have HAP := Lib.hid hap
  have hw0 : IntKind.i64.wrap (0 - 0) = 0 := rfl
  have hwn : IntKind.i64.wrap ((n : Int) - 0) = (n : Int) := IntWalk.i64_in _ (by omega)
  have g1 : decide ((n : Int) < 0) = false := by simp
  have g2 : decide (0 < (n : Int)) = true := by simp; omega
  have g2n : decide (0 < n) = true := by simp; omega
  clear hap hi hz hsz hby hzs hcs ecur ecap hcapm
  go_enter Try.func70, Try.ntmps70
  go_wp2_with ((refine Lib.wpList_append_run _ rfl _ _ 74 3 rfl _ _ rfl rfl _ _ HAP.out ?_))
  go_wp2_with fail
  go_ret
  exact ⟨_, rfl, HOWN.out, HB.out⟩
theorem grow_file (n : Nat) (w : World) (hn : n ≤ 16384) : Calls Try.prog 70 #[.slice none 0 0, .int .i64 (n : Int)] w (OwnNew 68 3 0 [] w) := by
  by_cases h : n = 0
  · subst h
    refine (grow_file_nil w).mono ?_
    rintro e w' ⟨rfl, rfl⟩
    exact ⟨_, rfl, World.ownsRow_nil _ _ _ _, Below.refl _ _⟩
  · exact grow_file_some n w (by omega) hn

set_option maxRecDepth 100000 in
set_option maxHeartbeats 4000000 in
theorem concat_file (g : Nat) (rs : List RowD) (w : World) (hk : rs.length ≤ 3) (hrow : ∀ i r, rs[i]? = some r → w.cell? ⟨g, i, none⟩ = some r.val) (hgood : ∀ r ∈ rs, r.good w 3) :
    Calls Try.prog 57 #[.slice (some ⟨g, 0, none⟩) rs.length rs.length] w (OwnNew 68 3 (tot rs) (allV rs) w) := by
  have htot := tot_le hgood
  obtain ⟨k, ek⟩ : ∃ k, k = rs.length := ⟨_, rfl⟩
  rw [← ek] at hk htot ⊢
  have HROW := Lib.hid hrow
  have HGOOD := Lib.hid hgood
  have HTOT := Lib.hid (show ∀ i, tot (rs.take i) ≤ 12288 from fun i => by
    have h1 := tot_le (w := w) (sz := 3) (rs := rs.take i) (fun r hr => hgood r (List.mem_of_mem_take hr))
    have h2 : (rs.take i).length ≤ 3 := by rw [List.length_take]; omega
    omega)
  have HK := Lib.hid ek
  have HK3 := Lib.hid hk
  clear hrow hgood htot ek
  go_enter Try.func57, Try.ntmps57
  go_wp2_with fail
  go_loop [3, 11] (fun sv iv => ∃ i : Nat, iv = .int .i64 (i : Int) ∧ i ≤ k ∧ sv = .int .i64 (tot (rs.take i) : Int)) (fun _ iv => k - (intOf iv).toNat)
  case atStart => exact ⟨0, rfl, Nat.zero_le _, rfl⟩
  case round =>
    obtain ⟨i, rfl, hi, rfl⟩ := hrel
    by_cases hlt : i < k
    · obtain ⟨r, hr⟩ : ∃ r, rs[i]? = some r := ⟨rs[i]'(by have := HK.out; omega), List.getElem?_eq_getElem _⟩
      have hc := HROW.out i r hr
      obtain ⟨A, n, c, vs⟩ := r
      have hc0 : w.cell? ⟨g, 0 + i, none⟩ = some (.slice A n c) := by rw [Nat.zero_add]; exact hc
      have hc1 : w.cell? ⟨g, i, none⟩ = some (.slice A n c) := hc
      have hn : n ≤ 4096 := (HGOOD.out _ (List.mem_of_getElem? hr)).2.2.2
      have ht := HTOT.out i
      have ht1 : tot (rs.take (i + 1)) = tot (rs.take i) + n := tot_take hr
      obtain ⟨a, ea⟩ : ∃ a, a = tot (rs.take i) := ⟨_, rfl⟩
      obtain ⟨b, eb⟩ : ∃ b, b = tot (rs.take (i + 1)) := ⟨_, rfl⟩
      rw [← ea, ← eb] at ht1
      rw [← ea] at ht ⊢
      have q1 : IntKind.i64.wrap ((a : Int) + (n : Int)) = (b : Int) := by rw [show (a : Int) + (n : Int) = (b : Int) by omega]; exact IntWalk.i64_in _ (by omega)
      have g1 : decide ((b : Int) < 0) = false := by simp
      have hiI : (i : Int) < (k : Int) := by omega
      have hi0 : (0 : Int) ≤ (i : Int) := by omega
      have EB := Lib.hid eb
      clear hc hr ea eb ht1
      go_wp2_with fail
      go_round
      case rel => exact ⟨i + 1, by go_num, by omega, by rw [EB.out]⟩
      case measure => simp [intOf]; omega
    · have hie : i = k := by omega
      subst hie
      have hiI : ¬ (i : Int) < (i : Int) := by omega
      have ht := HTOT.out i
      have HET := Lib.hid (show tot (rs.take i) = tot rs by rw [HK.out, List.take_length])
      have HEV := Lib.hid (show allV (rs.take i) = allV rs by rw [HK.out, List.take_length])
      obtain ⟨a, ea⟩ : ∃ a, a = tot (rs.take i) := ⟨_, rfl⟩
      rw [← ea] at ht ⊢
      have HG := Lib.hid (grow_file a w (by omega))
      clear ea ht
      go_wp2_with fail
      go_at_call 70
      (with_reducible refine HG.out.mono ?_)
      rintro e w1 ⟨v, rfl, hv, hb⟩
      have HV := Lib.hid hv
      have HB := Lib.hid hb
      clear hv hb
      go_wp2_with fail
      go_loopw [6, 27] (fun v iv wr => ∃ j : Nat, iv = .int .i64 (j : Int) ∧ j ≤ i ∧ wr.ownsRow w.heap.size 68 3 v (tot (rs.take j)) (allV (rs.take j)) ∧ Below w.heap.size w wr) (fun _ iv _ => i - (intOf iv).toNat)
      case atStart => exact ⟨0, rfl, Nat.zero_le _, HV.out, HB.out⟩
      case round =>
        obtain ⟨j, rfl, hj, hown, hbr⟩ := hrel
        have HO := Lib.hid hown
        have HBR := Lib.hid hbr
        by_cases hlt2 : j < i
        · obtain ⟨r, hr⟩ : ∃ r, rs[j]? = some r := ⟨rs[j]'(by have := HK.out; omega), List.getElem?_eq_getElem _⟩
          have hc := HROW.out j r hr
          have hg0 := World.block_lt_of_cell? w _ hc
          have hgd := (HGOOD.out _ (List.mem_of_getElem? hr)).below (hbr.mono (Nat.le_refl _))
          have ht := HTOT.out j
          have HT1 := Lib.hid (tot_take hr)
          have HV1 := Lib.hid (allV_take hr)
          obtain ⟨A, n, c, vs⟩ := r
          have hc1 : wr.cell? ⟨g, j, none⟩ = some (.slice A n c) := (hbr.cell (p := ⟨g, j, none⟩) hg0).trans hc
          have hc0 : wr.cell? ⟨g, 0 + j, none⟩ = some (.slice A n c) := by rw [Nat.zero_add]; exact hc1
          have HGD := Lib.hid hgd
          have HLEN := Lib.hid (show tot (rs.take j) + n ≤ 1099511627776 by have := hgd.2.2.2; simp only at this; omega)
          have hiI : (j : Int) < (i : Int) := by omega
          have hi0 : (0 : Int) ≤ (j : Int) := by omega
          clear hown hbr hc hg0 hgd ht hr
          go_wp2_with ((refine wpList_append_raw 33 vs elem_file HO.out HGD.out.2.1 HGD.out.1 HGD.out.2.2.1 rfl rfl HLEN.out HBR.out.size ?_))
          intro v5 w5 ho5 ht5 _
          have HO5 := Lib.hid ho5
          have HB5 := Lib.hid (HBR.out.trans (ht5.below HBR.out.size (fun k hk => (World.ownsRow.lt HO.out k hk).1)))
          clear ho5 ht5
          go_wp2_with fail
          go_roundw
          case rel => exact ⟨j + 1, by go_num, by omega, by rw [HT1.out, HV1.out]; exact HO5.out, HB5.out⟩
          case measure => simp [intOf]; omega
        · have hje : j = i := by omega
          subst hje
          have hiI : ¬ (j : Int) < (j : Int) := by omega
          clear hown hbr
          go_wp2_with fail
          go_ret
          exact ⟨_, rfl, by rw [← HET.out, ← HEV.out]; exact HO.out, HBR.out⟩

set_option maxRecDepth 100000 in
set_option maxHeartbeats 2000000 in
theorem grow_node_nil (w : World) : Calls Try.prog 76 #[.slice none 0 0, .int .i64 0] w fun e w' => e = .returned (.slice none 0 0) ∧ w = w' := by
  go_enter Try.func76, Try.ntmps76
  go_wp2_with fail
  go_ret
  exact ⟨rfl, rfl⟩
set_option maxRecDepth 100000 in
set_option maxHeartbeats 2000000 in
theorem grow_node_some (n : Nat) (w : World) (h0 : 0 < n) (hn : n ≤ 16384) : Calls Try.prog 76 #[.slice none 0 0, .int .i64 (n : Int)] w (OwnNew 71 1 0 [] w) := by
  obtain ⟨i, z, hi, hz, hsz, hby, hzs⟩ := elem_node.info
  have hap := Lib.run_append_nil_zeros (P := Try.prog) w 75 3 75 71 i z .i64 .i64 Try.underlying75 Try.underlying3 hi hz n h0 (by omega) (by omega) (by rw [hby]; omega)
  obtain ⟨cap, ecap⟩ : ∃ cap, cap = grownCap w n 0 71 := ⟨_, rfl⟩
  rw [← ecap] at hap
  have hcap : n ≤ cap := by rw [ecap]; exact grownCap_ge w n 0 _
  have hcapm : cap ≤ maxLen := by rw [ecap]; exact grownCap_le_maxLen w n 0 _ (by unfold maxLen; omega)
  obtain ⟨cur, ecur⟩ : ∃ cur, cur = Builtin.zeroCells z.cells n ++ Builtin.zeroCells z.cells (cap - n) := ⟨_, rfl⟩
  rw [← ecur] at hap
  have hcs : cur.size = cap * 1 := by
    rw [ecur]
    simp only [Builtin.zeroCells, Array.size_append, Array.size_map, Array.size_range, hzs]
    omega
  have HOWN := Lib.hid (World.ownsRow_made (base := w.heap.size) (e := 71) (size := 1) w.drew cur cap (Nat.le_refl _) hcapm hcs)
  have HB := Lib.hid (((Below.refl w.heap.size w).drew).alloc (Nat.le_refl _) (.cells cur 71))
  have HAP := Lib.hid hap
  have hw0 : IntKind.i64.wrap (0 - 0) = 0 := rfl
  have hwn : IntKind.i64.wrap ((n : Int) - 0) = (n : Int) := IntWalk.i64_in _ (by omega)
  have g1 : decide ((n : Int) < 0) = false := by simp
  have g2 : decide (0 < (n : Int)) = true := by simp; omega
  have g2n : decide (0 < n) = true := by simp; omega
  clear hap hi hz hsz hby hzs hcs ecur ecap hcapm
  go_enter Try.func76, Try.ntmps76
  go_wp2_with ((refine Lib.wpList_append_run _ rfl _ _ 75 3 rfl _ _ rfl rfl _ _ HAP.out ?_))
  go_wp2_with fail
  go_ret
  exact ⟨_, rfl, HOWN.out, HB.out⟩
theorem grow_node (n : Nat) (w : World) (hn : n ≤ 16384) : Calls Try.prog 76 #[.slice none 0 0, .int .i64 (n : Int)] w (OwnNew 71 1 0 [] w) := by
  by_cases h : n = 0
  · subst h
    refine (grow_node_nil w).mono ?_
    rintro e w' ⟨rfl, rfl⟩
    exact ⟨_, rfl, World.ownsRow_nil _ _ _ _, Below.refl _ _⟩
  · exact grow_node_some n w (by omega) hn

set_option maxRecDepth 100000 in
set_option maxHeartbeats 4000000 in
theorem concat_node (g : Nat) (rs : List RowD) (w : World) (hk : rs.length ≤ 3) (hrow : ∀ i r, rs[i]? = some r → w.cell? ⟨g, i, none⟩ = some r.val) (hgood : ∀ r ∈ rs, r.good w 1) :
    Calls Try.prog 71 #[.slice (some ⟨g, 0, none⟩) rs.length rs.length] w (OwnNew 71 1 (tot rs) (allV rs) w) := by
  have htot := tot_le hgood
  obtain ⟨k, ek⟩ : ∃ k, k = rs.length := ⟨_, rfl⟩
  rw [← ek] at hk htot ⊢
  have HROW := Lib.hid hrow
  have HGOOD := Lib.hid hgood
  have HTOT := Lib.hid (show ∀ i, tot (rs.take i) ≤ 12288 from fun i => by
    have h1 := tot_le (w := w) (sz := 1) (rs := rs.take i) (fun r hr => hgood r (List.mem_of_mem_take hr))
    have h2 : (rs.take i).length ≤ 3 := by rw [List.length_take]; omega
    omega)
  have HK := Lib.hid ek
  have HK3 := Lib.hid hk
  clear hrow hgood htot ek
  go_enter Try.func71, Try.ntmps71
  go_wp2_with fail
  go_loop [3, 11] (fun sv iv => ∃ i : Nat, iv = .int .i64 (i : Int) ∧ i ≤ k ∧ sv = .int .i64 (tot (rs.take i) : Int)) (fun _ iv => k - (intOf iv).toNat)
  case atStart => exact ⟨0, rfl, Nat.zero_le _, rfl⟩
  case round =>
    obtain ⟨i, rfl, hi, rfl⟩ := hrel
    by_cases hlt : i < k
    · obtain ⟨r, hr⟩ : ∃ r, rs[i]? = some r := ⟨rs[i]'(by have := HK.out; omega), List.getElem?_eq_getElem _⟩
      have hc := HROW.out i r hr
      obtain ⟨A, n, c, vs⟩ := r
      have hc0 : w.cell? ⟨g, 0 + i, none⟩ = some (.slice A n c) := by rw [Nat.zero_add]; exact hc
      have hc1 : w.cell? ⟨g, i, none⟩ = some (.slice A n c) := hc
      have hn : n ≤ 4096 := (HGOOD.out _ (List.mem_of_getElem? hr)).2.2.2
      have ht := HTOT.out i
      have ht1 : tot (rs.take (i + 1)) = tot (rs.take i) + n := tot_take hr
      obtain ⟨a, ea⟩ : ∃ a, a = tot (rs.take i) := ⟨_, rfl⟩
      obtain ⟨b, eb⟩ : ∃ b, b = tot (rs.take (i + 1)) := ⟨_, rfl⟩
      rw [← ea, ← eb] at ht1
      rw [← ea] at ht ⊢
      have q1 : IntKind.i64.wrap ((a : Int) + (n : Int)) = (b : Int) := by rw [show (a : Int) + (n : Int) = (b : Int) by omega]; exact IntWalk.i64_in _ (by omega)
      have g1 : decide ((b : Int) < 0) = false := by simp
      have hiI : (i : Int) < (k : Int) := by omega
      have hi0 : (0 : Int) ≤ (i : Int) := by omega
      have EB := Lib.hid eb
      clear hc hr ea eb ht1
      go_wp2_with fail
      go_round
      case rel => exact ⟨i + 1, by go_num, by omega, by rw [EB.out]⟩
      case measure => simp [intOf]; omega
    · have hie : i = k := by omega
      subst hie
      have hiI : ¬ (i : Int) < (i : Int) := by omega
      have ht := HTOT.out i
      have HET := Lib.hid (show tot (rs.take i) = tot rs by rw [HK.out, List.take_length])
      have HEV := Lib.hid (show allV (rs.take i) = allV rs by rw [HK.out, List.take_length])
      obtain ⟨a, ea⟩ : ∃ a, a = tot (rs.take i) := ⟨_, rfl⟩
      rw [← ea] at ht ⊢
      have HG := Lib.hid (grow_node a w (by omega))
      clear ea ht
      go_wp2_with fail
      go_at_call 76
      (with_reducible refine HG.out.mono ?_)
      rintro e w1 ⟨v, rfl, hv, hb⟩
      have HV := Lib.hid hv
      have HB := Lib.hid hb
      clear hv hb
      go_wp2_with fail
      go_loopw [6, 27] (fun v iv wr => ∃ j : Nat, iv = .int .i64 (j : Int) ∧ j ≤ i ∧ wr.ownsRow w.heap.size 71 1 v (tot (rs.take j)) (allV (rs.take j)) ∧ Below w.heap.size w wr) (fun _ iv _ => i - (intOf iv).toNat)
      case atStart => exact ⟨0, rfl, Nat.zero_le _, HV.out, HB.out⟩
      case round =>
        obtain ⟨j, rfl, hj, hown, hbr⟩ := hrel
        have HO := Lib.hid hown
        have HBR := Lib.hid hbr
        by_cases hlt2 : j < i
        · obtain ⟨r, hr⟩ : ∃ r, rs[j]? = some r := ⟨rs[j]'(by have := HK.out; omega), List.getElem?_eq_getElem _⟩
          have hc := HROW.out j r hr
          have hg0 := World.block_lt_of_cell? w _ hc
          have hgd := (HGOOD.out _ (List.mem_of_getElem? hr)).below (hbr.mono (Nat.le_refl _))
          have ht := HTOT.out j
          have HT1 := Lib.hid (tot_take hr)
          have HV1 := Lib.hid (allV_take hr)
          obtain ⟨A, n, c, vs⟩ := r
          have hc1 : wr.cell? ⟨g, j, none⟩ = some (.slice A n c) := (hbr.cell (p := ⟨g, j, none⟩) hg0).trans hc
          have hc0 : wr.cell? ⟨g, 0 + j, none⟩ = some (.slice A n c) := by rw [Nat.zero_add]; exact hc1
          have HGD := Lib.hid hgd
          have HLEN := Lib.hid (show tot (rs.take j) + n ≤ 1099511627776 by have := hgd.2.2.2; simp only at this; omega)
          have hiI : (j : Int) < (i : Int) := by omega
          have hi0 : (0 : Int) ≤ (j : Int) := by omega
          clear hown hbr hc hg0 hgd ht hr
          go_wp2_with ((refine wpList_append_raw 33 vs elem_node HO.out HGD.out.2.1 HGD.out.1 HGD.out.2.2.1 rfl rfl HLEN.out HBR.out.size ?_))
          intro v5 w5 ho5 ht5 _
          have HO5 := Lib.hid ho5
          have HB5 := Lib.hid (HBR.out.trans (ht5.below HBR.out.size (fun k hk => (World.ownsRow.lt HO.out k hk).1)))
          clear ho5 ht5
          go_wp2_with fail
          go_roundw
          case rel => exact ⟨j + 1, by go_num, by omega, by rw [HT1.out, HV1.out]; exact HO5.out, HB5.out⟩
          case measure => simp [intOf]; omega
        · have hje : j = i := by omega
          subst hje
          have hiI : ¬ (j : Int) < (j : Int) := by omega
          clear hown hbr
          go_wp2_with fail
          go_ret
          exact ⟨_, rfl, by rw [← HET.out, ← HEV.out]; exact HO.out, HBR.out⟩
end Go.Proofs.Ytcjbhjbjkfgphaa

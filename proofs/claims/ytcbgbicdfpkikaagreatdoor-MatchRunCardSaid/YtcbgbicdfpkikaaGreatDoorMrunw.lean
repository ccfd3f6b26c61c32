/-
  MatchRun's walk. Conditions: the world holds what strings.Index asks, and the table of de Bruijn's numbers.
-/
import Derived.Test.YtcbgbicdfpkikaaGreatDoorMst
import Derived.Test.YtcbgbicdfpkikaaGreatDoorMrun
import Derived.Deep.Cut
import Derived.Deep.CutRange
import Derived.BigGuard
namespace Go.Proofs.YtcbgbicdfpkikaaGreatDoor
open Go.RowKit Go.Deep Go.Sort

/-- Whether a letter a stands there. -/
def byA (s : ByteArray) (i : Nat) : Bool := match s.data.toList[i]? with
  | some x => x.toNat == 97
  | none => false
theorem byA_iff {s : ByteArray} {i : Nat} : byA s i = true ↔ AtB s.data.toList 97 i := by
  unfold byA AtB
  cases s.data.toList[i]? with
  | none => simp
  | some x => simp
theorem byA_yes {s : ByteArray} {i : Nat} (h : i < s.size) (hb : s[i].toNat = 97) : byA s i = true := byA_iff.2 (byte_atB.2 ⟨h, hb⟩)
theorem byA_no {s : ByteArray} {i : Nat} (h : i < s.size) (hb : ¬ s[i].toNat = 97) : byA s i = false := by
  cases e : byA s i with
  | false => rfl
  | true => obtain ⟨_, h2⟩ := byte_atB.1 (byA_iff.1 e); exact absurd h2 hb
theorem go_true {s : ByteArray} {i : Nat} (h : (decide (i < s.size) && byA s i) = true) : i < s.size ∧ AtB s.data.toList 97 i := by
  rw [Bool.and_eq_true] at h
  exact ⟨of_decide_eq_true h.1, byA_iff.1 h.2⟩
theorem go_false {s : ByteArray} {i : Nat} (h : (decide (i < s.size) && !byA s i) = true) : i < s.size ∧ ¬ AtB s.data.toList 97 i := by
  rw [Bool.and_eq_true] at h
  refine ⟨of_decide_eq_true h.1, fun h2 => ?_⟩
  rw [byA_iff.2 h2] at h
  simp at h
theorem end_true {s : ByteArray} {i : Nat} (h : (decide (i < s.size) && byA s i) = false) (_ : i ≤ s.size) : i < s.data.toList.length → ¬ AtB s.data.toList 97 i := fun hl h2 => by
  rw [byA_iff.2 h2, decide_eq_true (show i < s.size from hl)] at h
  cases h
theorem end_false {s : ByteArray} {i : Nat} (h : (decide (i < s.size) && !byA s i) = false) (_ : i ≤ s.size) : i < s.data.toList.length → AtB s.data.toList 97 i := fun hl => by
  rw [decide_eq_true (show i < s.size from hl), Bool.true_and, Bool.not_eq_false'] at h
  exact byA_iff.1 h
theorem run_next {P : Nat → Prop} {a i : Nat} (h : ∀ m, a ≤ m → m < i → P m) (hi : P i) : ∀ m, a ≤ m → m < i + 1 → P m := fun m h1 h2 => by
  by_cases e : m = i
  · rw [e]; exact hi
  · exact h m h1 (by omega)
set_option maxRecDepth 100000 in
set_option maxHeartbeats 4000000 in
theorem run_any (s : ByteArray) (fr : Int) (w : World) (hM : MaxAt w) (hD : DebAt w) : Calls Tryz.prog 9 #[.string s, .int .i64 fr] w (TrueC w) := by
  have HA := Lib.hid fun (W : World) (hW : Below w.heap.size w W) => alive10_is W (hM.below hW) (hD.below hW)
  have HP0 := Lib.hid (parse_some (s := ⟨#[97, 43]⟩) (plus_parse bkOf) w hM)
  have HP := Lib.hid fun (W : World) (hW : Below w.heap.size w W) => parse_some (s := ⟨#[97, 42]⟩) (star_parse bkOf) W (hM.below hW)
  have HD := Lib.hid hD
  have H0 := Lib.hid (St.start w)
  clear hM hD
  go_enter Tryz.func9, Tryz.ntmps9
  go_wp2_with fail
  go_at_call 18
  with_reducible refine HP0.out.mono ?_
  rintro e w1 ⟨y, rfl, hy, hb1⟩
  obtain ⟨W1, hW1⟩ : ∃ W1, W1 = w1.alloc (.cells #[.int .i64 y.kind, .int .u64 (y.set 0), .int .u64 (y.set 1), .int .u64 (y.set 2), .int .u64 (y.set 3), .int .i64 y.lo, .int .i64 y.hi, .int .i64 y.num, .slice y.A y.n y.c] 28) := ⟨_, rfl⟩
  obtain ⟨b5, hb5⟩ : ∃ b, b = w1.heap.size := ⟨_, rfl⟩
  have H1 := Lib.hid (show St w W1 [(b5, #[.int .i64 y.kind, .int .u64 (y.set 0), .int .u64 (y.set 1), .int .u64 (y.set 2), .int .u64 (y.set 3), .int .i64 y.lo, .int .i64 y.hi, .int .i64 y.num, .slice y.A y.n y.c], 28)] [(repN 1 (-1) (litN 97), y)] from by rw [hW1, hb5]; exact ((H0.out.next hb1).tree hy).box _ _)
  have HP1 := Lib.hid (HP.out _ H1.out.bel)
  rw [NV.v_eq]
  clear hy hb1
  go_upto_region 2 with fail
  rw [← hW1, ← hb5]
  clear hW1 hb5
  go_wp2_with fail
  go_at_call 18
  with_reducible refine HP1.out.mono ?_
  rintro e w2 ⟨z, rfl, hy, hb1⟩
  obtain ⟨W2, hW2⟩ : ∃ W2, W2 = w2.alloc (.cells #[.int .i64 z.kind, .int .u64 (z.set 0), .int .u64 (z.set 1), .int .u64 (z.set 2), .int .u64 (z.set 3), .int .i64 z.lo, .int .i64 z.hi, .int .i64 z.num, .slice z.A z.n z.c] 28) := ⟨_, rfl⟩
  obtain ⟨b7, hb7⟩ : ∃ b, b = w2.heap.size := ⟨_, rfl⟩
  have H2 := Lib.hid (show St w W2 [(b7, #[.int .i64 z.kind, .int .u64 (z.set 0), .int .u64 (z.set 1), .int .u64 (z.set 2), .int .u64 (z.set 3), .int .i64 z.lo, .int .i64 z.hi, .int .i64 z.num, .slice z.A z.n z.c], 28), (b5, #[.int .i64 y.kind, .int .u64 (y.set 0), .int .u64 (y.set 1), .int .u64 (y.set 2), .int .u64 (y.set 3), .int .i64 y.lo, .int .i64 y.hi, .int .i64 y.num, .slice y.A y.n y.c], 28)] [(repN 0 (-1) (litN 97), z), (repN 1 (-1) (litN 97), y)] from by rw [hW2, hb7]; exact ((H1.out.next hb1).tree hy).box _ _)
  rw [NV.v_eq]
  clear hy hb1
  go_upto_region 3 with fail
  rw [← hW2, ← hb7]
  clear hW2 hb7
  by_cases h1 : 60 < s.size
  · have h1b : decide ((60 : Int) < (s.size : Int)) = true := decide_eq_true (by omega)
    have h1n : decide (60 < s.size) = true := decide_eq_true (by omega)
    clear h1
    go_wp2_with fail
    go_at_call 15
    with_reducible refine (HA.out _ H2.out.bel).mono ?_
    rintro e wz ⟨rfl, hb⟩
    have HBB := Lib.hid (H2.out.bel.trans (hb.mono H2.out.bel.size))
    clear hb
    go_wp2_with fail
    go_ret
    exact ⟨rfl, HBB.out⟩
  have h1b : decide ((60 : Int) < (s.size : Int)) = false := decide_eq_false (by omega)
  have h1n : decide (60 < s.size) = false := decide_eq_false (by omega)
  have HS := Lib.hid (show s.size ≤ 60 by omega)
  clear h1
  by_cases h1 : fr < 0
  · have h2b : decide (fr < 0) = true := decide_eq_true (by omega)
    clear h1
    go_wp2_with fail
    go_at_call 15
    with_reducible refine (HA.out _ H2.out.bel).mono ?_
    rintro e wz ⟨rfl, hb⟩
    have HBB := Lib.hid (H2.out.bel.trans (hb.mono H2.out.bel.size))
    clear hb
    go_wp2_with fail
    go_ret
    exact ⟨rfl, HBB.out⟩
  have h2b : decide (fr < 0) = false := decide_eq_false (by omega)
  have h0 : 0 ≤ fr := by omega
  clear h1
  by_cases h1 : (s.size : Int) < fr
  · have h3b : decide ((s.size : Int) < fr) = true := decide_eq_true (by omega)
    clear h1
    go_wp2_with fail
    go_at_call 15
    with_reducible refine (HA.out _ H2.out.bel).mono ?_
    rintro e wz ⟨rfl, hb⟩
    have HBB := Lib.hid (H2.out.bel.trans (hb.mono H2.out.bel.size))
    clear hb
    go_wp2_with fail
    go_ret
    exact ⟨rfl, HBB.out⟩
  have h3b : decide ((s.size : Int) < fr) = false := decide_eq_false (by omega)
  obtain ⟨n, rfl⟩ : ∃ n : Nat, fr = (n : Int) := ⟨fr.toNat, by omega⟩
  have HN := Lib.hid (show n ≤ s.size by omega)
  have h3n : decide (s.size < n) = false := decide_eq_false (by omega)
  clear h1 h0
  go_upto_region 5 with fail
  clear h1b h1n h2b h3b h3n
  go_wp2_with fail
  go_loopw [9] (fun iv wr => ∃ i : Nat, iv = .int .i64 (i : Int) ∧ n ≤ i ∧ i ≤ s.size ∧ Hid (∀ m, n ≤ m → m < i → ¬ AtB s.data.toList 97 m) ∧ wr = W2) (fun iv _ => s.size - (intOf iv).toNat)
  case atStart => exact ⟨n, rfl, Nat.le_refl _, HN.out, Lib.hid (by intro m h1 h2; exact absurd h2 (Nat.not_lt.2 h1)), rfl⟩
  case round =>
  obtain ⟨i, rfl, hlo, hle, HPP, hwr⟩ := hrel
  have hwr2 := hwr.symm
  clear hwr
  subst hwr2
  have HB := Lib.hid (And.intro hlo hle)
  have hib : i < 140737488355328 := by have := HS.out; omega
  have hi0 : (0 : Int) ≤ (i : Int) := by omega
  obtain ⟨g, hg⟩ : ∃ g, g = (decide (i < s.size) && !byA s i) := ⟨_, rfl⟩
  have HG := Lib.hid hg
  clear hg hlo hle
  go_upto_region 6 with fail
  go_cut [56] from 47 to 56 (fun t wx => t = .bool g ∧ wx = W2)
  case first =>
    by_cases hlt : i < s.size
    · have hiI : (i : Int) < (s.size : Int) := by omega
      by_cases hb : s[i].toNat = 97
      · have e1 : (((s[i].toNat : Nat) : Int) == 97) = true := by rw [hb]; rfl
        have e2 : (((s[i].toNat : Nat) : Int) != 97) = false := by rw [hb]; rfl
        have HQ := Lib.hid (show false = g from by rw [HG.out, decide_eq_true hlt, byA_yes hlt hb]; rfl)
        clear hb
        go_wp2_with fail
        go_meet
        case rel => exact ⟨by rw [← HQ.out], rfl⟩
      · have e1 : (((s[i].toNat : Nat) : Int) == 97) = false := by rw [beq_eq_false_iff_ne]; omega
        have e2 : (((s[i].toNat : Nat) : Int) != 97) = true := by rw [bne_iff_ne]; omega
        have HQ := Lib.hid (show (!false) = g from by rw [HG.out, decide_eq_true hlt, byA_no hlt hb]; rfl)
        clear hb
        go_wp2_with fail
        go_meet
        case rel => exact ⟨by rw [← HQ.out]; rfl, rfl⟩
    · have hiI : ¬ (i : Int) < (s.size : Int) := by omega
      have HQ := Lib.hid (show false = g from by rw [HG.out, decide_eq_false hlt]; rfl)
      go_wp2_with fail
      go_meet
      case rel => exact ⟨by rw [← HQ.out], rfl⟩
  obtain ⟨rfl, hwc⟩ := hcut
  have hwc2 := hwc.symm
  clear hwc
  subst hwc2
  cases g with
  | true =>
    have hwr1 : wrap64 ((i : Int) + 1) = (i : Int) + 1 := IntWalk.wrap64_in _ (by omega)
    obtain ⟨hlt, hby⟩ := go_false HG.out.symm
    have HNX := Lib.hid (And.intro hlt (run_next HPP.out hby))
    clear hlt hby
    go_wp2_with fail
    go_roundw
    case rel => exact ⟨i + 1, by go_num, by have := HB.out.1; omega, HNX.out.1, Lib.hid HNX.out.2, by first | rfl | trivial⟩
    case measure => have := HNX.out.1; simp [intOf]; omega
  | false =>
  have HI := Lib.hid (And.intro HB.out.1 (And.intro HB.out.2 (And.intro HPP.out (end_false HG.out.symm HB.out.2))))
  clear HB HPP HG hib hi0
  go_wp2_with fail
  go_loopw [10] (fun iv wr => ∃ j : Nat, iv = .int .i64 (j : Int) ∧ i ≤ j ∧ j ≤ s.size ∧ Hid (RunB s.data.toList 97 i j) ∧ wr = W2) (fun iv _ => s.size - (intOf iv).toNat)
  case atStart => exact ⟨i, rfl, Nat.le_refl _, HI.out.2.1, Lib.hid (by intro m h1 h2; exact absurd h2 (Nat.not_lt.2 h1)), rfl⟩
  case round =>
  obtain ⟨j, rfl, hlo, hle, HPP, hwr⟩ := hrel
  have hwr2 := hwr.symm
  clear hwr
  subst hwr2
  have HB := Lib.hid (And.intro hlo hle)
  have hib : j < 140737488355328 := by have := HS.out; omega
  have hi0 : (0 : Int) ≤ (j : Int) := by omega
  obtain ⟨g, hg⟩ : ∃ g, g = (decide (j < s.size) && byA s j) := ⟨_, rfl⟩
  have HG := Lib.hid hg
  clear hg hlo hle
  go_upto_region 9 with fail
  go_cut [69] from 60 to 69 (fun t wx => t = .bool g ∧ wx = W2)
  case first =>
    by_cases hlt : j < s.size
    · have hiI : (j : Int) < (s.size : Int) := by omega
      by_cases hb : s[j].toNat = 97
      · have e1 : (((s[j].toNat : Nat) : Int) == 97) = true := by rw [hb]; rfl
        have e2 : (((s[j].toNat : Nat) : Int) != 97) = false := by rw [hb]; rfl
        have HQ := Lib.hid (show true = g from by rw [HG.out, decide_eq_true hlt, byA_yes hlt hb]; rfl)
        clear hb
        go_wp2_with fail
        go_meet
        case rel => exact ⟨by rw [← HQ.out], rfl⟩
      · have e1 : (((s[j].toNat : Nat) : Int) == 97) = false := by rw [beq_eq_false_iff_ne]; omega
        have e2 : (((s[j].toNat : Nat) : Int) != 97) = true := by rw [bne_iff_ne]; omega
        have HQ := Lib.hid (show (!true) = g from by rw [HG.out, decide_eq_true hlt, byA_no hlt hb]; rfl)
        clear hb
        go_wp2_with fail
        go_meet
        case rel => exact ⟨by rw [← HQ.out]; rfl, rfl⟩
    · have hiI : ¬ (j : Int) < (s.size : Int) := by omega
      have HQ := Lib.hid (show false = g from by rw [HG.out, decide_eq_false hlt]; rfl)
      go_wp2_with fail
      go_meet
      case rel => exact ⟨by rw [← HQ.out], rfl⟩
  obtain ⟨rfl, hwc⟩ := hcut
  have hwc2 := hwc.symm
  clear hwc
  subst hwc2
  cases g with
  | true =>
    have hwr1 : wrap64 ((j : Int) + 1) = (j : Int) + 1 := IntWalk.wrap64_in _ (by omega)
    obtain ⟨hlt, hby⟩ := go_true HG.out.symm
    have HNX := Lib.hid (And.intro hlt (run_next HPP.out hby))
    clear hlt hby
    go_wp2_with fail
    go_roundw
    case rel => exact ⟨j + 1, by go_num, by have := HB.out.1; omega, HNX.out.1, Lib.hid HNX.out.2, by first | rfl | trivial⟩
    case measure => have := HNX.out.1; simp [intOf]; omega
  | false =>
  have HJ := Lib.hid (And.intro HB.out.1 (And.intro HB.out.2 (And.intro HPP.out (end_true HG.out.symm HB.out.2))))
  clear HB HPP HG hib hi0
  go_wp2_with fail
  go_loopw [11] (fun iv wr => ∃ k : Nat, iv = .int .i64 (k : Int) ∧ n ≤ k ∧ k ≤ s.size ∧ Hid (RunB s.data.toList 97 n k) ∧ wr = W2) (fun iv _ => s.size - (intOf iv).toNat)
  case atStart => exact ⟨n, rfl, Nat.le_refl _, HN.out, Lib.hid (by intro m h1 h2; exact absurd h2 (Nat.not_lt.2 h1)), rfl⟩
  case round =>
  obtain ⟨k, rfl, hlo, hle, HPP, hwr⟩ := hrel
  have hwr2 := hwr.symm
  clear hwr
  subst hwr2
  have HB := Lib.hid (And.intro hlo hle)
  have hib : k < 140737488355328 := by have := HS.out; omega
  have hi0 : (0 : Int) ≤ (k : Int) := by omega
  obtain ⟨g, hg⟩ : ∃ g, g = (decide (k < s.size) && byA s k) := ⟨_, rfl⟩
  have HG := Lib.hid hg
  clear hg hlo hle
  go_upto_region 12 with fail
  go_cut [82] from 73 to 82 (fun t wx => t = .bool g ∧ wx = W2)
  case first =>
    by_cases hlt : k < s.size
    · have hiI : (k : Int) < (s.size : Int) := by omega
      by_cases hb : s[k].toNat = 97
      · have e1 : (((s[k].toNat : Nat) : Int) == 97) = true := by rw [hb]; rfl
        have e2 : (((s[k].toNat : Nat) : Int) != 97) = false := by rw [hb]; rfl
        have HQ := Lib.hid (show true = g from by rw [HG.out, decide_eq_true hlt, byA_yes hlt hb]; rfl)
        clear hb
        go_wp2_with fail
        go_meet
        case rel => exact ⟨by rw [← HQ.out], rfl⟩
      · have e1 : (((s[k].toNat : Nat) : Int) == 97) = false := by rw [beq_eq_false_iff_ne]; omega
        have e2 : (((s[k].toNat : Nat) : Int) != 97) = true := by rw [bne_iff_ne]; omega
        have HQ := Lib.hid (show (!true) = g from by rw [HG.out, decide_eq_true hlt, byA_no hlt hb]; rfl)
        clear hb
        go_wp2_with fail
        go_meet
        case rel => exact ⟨by rw [← HQ.out]; rfl, rfl⟩
    · have hiI : ¬ (k : Int) < (s.size : Int) := by omega
      have HQ := Lib.hid (show false = g from by rw [HG.out, decide_eq_false hlt]; rfl)
      go_wp2_with fail
      go_meet
      case rel => exact ⟨by rw [← HQ.out], rfl⟩
  obtain ⟨rfl, hwc⟩ := hcut
  have hwc2 := hwc.symm
  clear hwc
  subst hwc2
  cases g with
  | true =>
    have hwr1 : wrap64 ((k : Int) + 1) = (k : Int) + 1 := IntWalk.wrap64_in _ (by omega)
    obtain ⟨hlt, hby⟩ := go_true HG.out.symm
    have HNX := Lib.hid (And.intro hlt (run_next HPP.out hby))
    clear hlt hby
    go_wp2_with fail
    go_roundw
    case rel => exact ⟨k + 1, by go_num, by have := HB.out.1; omega, HNX.out.1, Lib.hid HNX.out.2, by first | rfl | trivial⟩
    case measure => have := HNX.out.1; simp [intOf]; omega
  | false =>
  have HK := Lib.hid (And.intro HB.out.1 (And.intro HB.out.2 (And.intro HPP.out (end_true HG.out.symm HB.out.2))))
  clear HB HPP HG hib hi0
  have HT := Lib.hid (show s.data.toList.length ≤ 1024 by show s.size ≤ 1024; have := HS.out; omega)
  go_upto_region 14 with fail
  obtain ⟨e0, e1, e2, e3, e4, e5, e6, e7, e8⟩ := node_box (H2.out.ob 1 rfl)
  have hle := lt_of_some (H2.out.ob 1 rfl)
  have hfi := find_is (s := s) true (n : Int) (H2.out.tr 1 rfl) (HD.out.below H2.out.bel) (by decide)
  rw [NV.v_eq] at hfi
  have HF := Lib.hid hfi
  clear hfi
  go_wp2_with fail
  go_at_call 16
  with_reducible refine HF.out.mono ?_
  rintro e w3 ⟨sx, is, rfl, hfr, hbf⟩
  rename_i hK
  refine hK _ _ ?_
  clear hK
  iterate 4
    refine wpList_plain rfl (fun K2 hK2 => ?_)
    go_simp
    refine hK2 _ _ ?_
    clear hK2 K2
    try simp only [Act.put, List.setIfInBounds_toArray, List.set_cons_zero, List.set_cons_succ]
  refine wpList_mat_store rfl (.tmp 12) (.tmp 90) rfl sx rfl rfl ?_
  clear e0 e1 e2 e3 e4 e5 e6 e7 e8 hle
  obtain ⟨W3, hW3⟩ : ∃ W3, W3 = w3.alloc (.cells (spC sx) 34) := ⟨_, rfl⟩
  obtain ⟨b12, hb12⟩ : ∃ b, b = w3.heap.size := ⟨_, rfl⟩
  have H3 := Lib.hid (show St w W3 [(b12, spC sx, 34), (b7, #[.int .i64 z.kind, .int .u64 (z.set 0), .int .u64 (z.set 1), .int .u64 (z.set 2), .int .u64 (z.set 3), .int .i64 z.lo, .int .i64 z.hi, .int .i64 z.num, .slice z.A z.n z.c], 28), (b5, #[.int .i64 y.kind, .int .u64 (y.set 0), .int .u64 (y.set 1), .int .u64 (y.set 2), .int .u64 (y.set 3), .int .i64 y.lo, .int .i64 y.hi, .int .i64 y.num, .slice y.A y.n y.c], 28)] [(repN 0 (-1) (litN 97), z), (repN 1 (-1) (litN 97), y)] from by rw [hW3, hb12]; exact (H2.out.next hbf).box _ _)
  have hxx := run_plus (FindR.ll hfr HN.out HT.out) HI.out.1 HI.out.2.1 HI.out.2.2.1 HI.out.2.2.2 HJ.out.1 HJ.out.2.1 HJ.out.2.2.1 HJ.out.2.2.2
  have HX := Lib.hid hxx
  clear hxx
  clear hfr hbf
  go_upto_region 15 with fail
  rw [← hW3, ← hb12]
  clear hW3 hb12
  obtain ⟨e0, e1, e2, e3, e4, e5, e6, e7, e8⟩ := node_box (H3.out.ob 1 rfl)
  have hle := lt_of_some (H3.out.ob 1 rfl)
  have hfi := find_is (s := s) true (n : Int) (H3.out.tr 0 rfl) (HD.out.below H3.out.bel) (by decide)
  rw [NV.v_eq] at hfi
  have HF := Lib.hid hfi
  clear hfi
  go_wp2_with fail
  go_at_call 16
  with_reducible refine HF.out.mono ?_
  rintro e w4 ⟨sy, has, rfl, hfr, hbf⟩
  rename_i hK
  refine hK _ _ ?_
  clear hK
  iterate 4
    refine wpList_plain rfl (fun K2 hK2 => ?_)
    go_simp
    refine hK2 _ _ ?_
    clear hK2 K2
    try simp only [Act.put, List.setIfInBounds_toArray, List.set_cons_zero, List.set_cons_succ]
  refine wpList_mat_store rfl (.tmp 14) (.tmp 97) rfl sy rfl rfl ?_
  clear e0 e1 e2 e3 e4 e5 e6 e7 e8 hle
  obtain ⟨W4, hW4⟩ : ∃ W4, W4 = w4.alloc (.cells (spC sy) 34) := ⟨_, rfl⟩
  obtain ⟨b14, hb14⟩ : ∃ b, b = w4.heap.size := ⟨_, rfl⟩
  have H4 := Lib.hid (show St w W4 [(b14, spC sy, 34), (b12, spC sx, 34), (b7, #[.int .i64 z.kind, .int .u64 (z.set 0), .int .u64 (z.set 1), .int .u64 (z.set 2), .int .u64 (z.set 3), .int .i64 z.lo, .int .i64 z.hi, .int .i64 z.num, .slice z.A z.n z.c], 28), (b5, #[.int .i64 y.kind, .int .u64 (y.set 0), .int .u64 (y.set 1), .int .u64 (y.set 2), .int .u64 (y.set 3), .int .i64 y.lo, .int .i64 y.hi, .int .i64 y.num, .slice y.A y.n y.c], 28)] [(repN 0 (-1) (litN 97), z), (repN 1 (-1) (litN 97), y)] from by rw [hW4, hb14]; exact (H3.out.next hbf).box _ _)
  obtain ⟨hhas, hsy⟩ := run_star (FindR.ll hfr HN.out HT.out) HK.out.1 HK.out.2.1 HK.out.2.2.1 HK.out.2.2.2
  subst hhas
  have HY := Lib.hid hsy
  clear hsy
  clear hfr hbf
  go_upto_region 16 with fail
  rw [← hW4, ← hb14]
  clear hW4 hb14
  obtain ⟨hok, hsx⟩ := HX.out
  have HSX := Lib.hid hsx
  obtain ⟨k0, k1⟩ := mat_box (H4.out.ob 0 rfl) HY.out
  have kl := lt_of_some (H4.out.ob 0 rfl)
  clear hsx
  by_cases hlt : i < s.size
  · have his : is = true := by rw [hok]; exact decide_eq_true hlt
    subst his
    have d1 : decide ((i : Int) < (s.size : Int)) = true := decide_eq_true (by omega)
    have d2 : decide (i < s.size) = true := decide_eq_true hlt
    have HZ := Lib.hid (HSX.out rfl)
    clear hlt hok
    go_wp2_with fail
    go_at_call 15
    with_reducible refine (HA.out _ H4.out.bel).mono ?_
    rintro e wz ⟨rfl, hb⟩
    have HW9 := Lib.hid (H4.out.next hb)
    obtain ⟨p0, p1⟩ := mat_box (HW9.out.ob 1 rfl) HZ.out
    have pl := lt_of_some (HW9.out.ob 1 rfl)
    have HBB := Lib.hid (H4.out.bel.trans (hb.mono H4.out.bel.size))
    clear hb
    go_wp2_with fail
    go_ret
    exact ⟨rfl, HBB.out⟩
  · have his : is = false := by rw [hok]; exact decide_eq_false hlt
    subst his
    have d1 : decide ((i : Int) < (s.size : Int)) = false := decide_eq_false (by omega)
    have d2 : decide (i < s.size) = false := decide_eq_false hlt
    clear hlt hok
    go_wp2_with fail
    go_at_call 15
    with_reducible refine (HA.out _ H4.out.bel).mono ?_
    rintro e wz ⟨rfl, hb⟩
    have HBB := Lib.hid (H4.out.bel.trans (hb.mono H4.out.bel.size))
    clear hb
    go_wp2_with fail
    go_ret
    exact ⟨rfl, HBB.out⟩
end Go.Proofs.YtcbgbicdfpkikaaGreatDoor

/-
  MatchPlain's walk. Conditions: the world holds what strings.Index asks, and the table of de Bruijn's numbers.
-/
import Derived.Test.YtcbgbicdfpkikaaGreatDoorMst
import Derived.Test.YtcbgbicdfpkikaaGreatDoorMpl
import Derived.Deep.Cut
import Derived.Deep.CutRange
import Derived.BigGuard
namespace Go.Proofs.YtcbgbicdfpkikaaGreatDoor
open Go.RowKit Go.Deep Go.Sort

/-- A small letter or a figure. -/
def LowN (v : Nat) : Bool := (decide (97 ≤ v) && decide (v ≤ 122)) || (decide (48 ≤ v) && decide (v ≤ 57))
theorem LowN.plain {c : UInt8} (h : LowN c.toNat = true) : Plain c := by
  unfold Plain
  simp only [UInt8.le_iff_toNat_le]
  unfold LowN at h
  simp only [Bool.or_eq_true, Bool.and_eq_true, decide_eq_true_eq] at h
  rcases h with h | h
  · exact .inl h
  · exact .inr (.inr h)
def LowTo (s : ByteArray) (i : Nat) : Prop := ∀ (j : Nat) (h : j < s.size), j < i → LowN s[j].toNat = true
theorem LowTo.next {s : ByteArray} {i : Nat} (h : LowTo s i) (hi : ∀ h : i < s.size, LowN s[i].toNat = true) : LowTo s (i + 1) := fun j hj hji => by
  by_cases e : j = i
  · subst e
    exact hi hj
  · exact h j hj (by omega)
theorem LowTo.all {s : ByteArray} (h : LowTo s s.size) : ∀ c ∈ s.data.toList, Plain c := fun c hc => by
  obtain ⟨j, hj, e⟩ := List.mem_iff_getElem.1 hc
  have hl : s.data.toList.length = s.size := by simp
  have := h j (by omega) (by omega)
  refine LowN.plain ?_
  rw [← e]
  exact this
theorem lwc0 {v : Nat} (_h : 0 ≤ v) (_k : v ≤ 47) : ¬ (97 ≤ (v : Int)) ∧ (v : Int) ≤ 122 ∧ ¬ (48 ≤ (v : Int)) ∧ (v : Int) ≤ 57 ∧ decide (97 ≤ (v : Int)) = false ∧ decide ((v : Int) ≤ 122) = true ∧ decide (48 ≤ (v : Int)) = false ∧ decide ((v : Int) ≤ 57) = true ∧ LowN v = false :=
  ⟨by omega, by omega, by omega, by omega, decide_eq_false (by omega), decide_eq_true (by omega), decide_eq_false (by omega), decide_eq_true (by omega), by
    unfold LowN
    rw [decide_eq_false (show ¬ 97 ≤ v by omega), decide_eq_true (show v ≤ 122 by omega), decide_eq_false (show ¬ 48 ≤ v by omega), decide_eq_true (show v ≤ 57 by omega)]
    rfl⟩
theorem lwc1 {v : Nat} (_h : 48 ≤ v) (_k : v ≤ 57) : ¬ (97 ≤ (v : Int)) ∧ (v : Int) ≤ 122 ∧ 48 ≤ (v : Int) ∧ (v : Int) ≤ 57 ∧ decide (97 ≤ (v : Int)) = false ∧ decide ((v : Int) ≤ 122) = true ∧ decide (48 ≤ (v : Int)) = true ∧ decide ((v : Int) ≤ 57) = true ∧ LowN v = true :=
  ⟨by omega, by omega, by omega, by omega, decide_eq_false (by omega), decide_eq_true (by omega), decide_eq_true (by omega), decide_eq_true (by omega), by
    unfold LowN
    rw [decide_eq_false (show ¬ 97 ≤ v by omega), decide_eq_true (show v ≤ 122 by omega), decide_eq_true (show 48 ≤ v by omega), decide_eq_true (show v ≤ 57 by omega)]
    rfl⟩
theorem lwc2 {v : Nat} (_h : 58 ≤ v) (_k : v ≤ 96) : ¬ (97 ≤ (v : Int)) ∧ (v : Int) ≤ 122 ∧ 48 ≤ (v : Int) ∧ ¬ ((v : Int) ≤ 57) ∧ decide (97 ≤ (v : Int)) = false ∧ decide ((v : Int) ≤ 122) = true ∧ decide (48 ≤ (v : Int)) = true ∧ decide ((v : Int) ≤ 57) = false ∧ LowN v = false :=
  ⟨by omega, by omega, by omega, by omega, decide_eq_false (by omega), decide_eq_true (by omega), decide_eq_true (by omega), decide_eq_false (by omega), by
    unfold LowN
    rw [decide_eq_false (show ¬ 97 ≤ v by omega), decide_eq_true (show v ≤ 122 by omega), decide_eq_true (show 48 ≤ v by omega), decide_eq_false (show ¬ v ≤ 57 by omega)]
    rfl⟩
theorem lwc3 {v : Nat} (_h : 97 ≤ v) (_k : v ≤ 122) : 97 ≤ (v : Int) ∧ (v : Int) ≤ 122 ∧ 48 ≤ (v : Int) ∧ ¬ ((v : Int) ≤ 57) ∧ decide (97 ≤ (v : Int)) = true ∧ decide ((v : Int) ≤ 122) = true ∧ decide (48 ≤ (v : Int)) = true ∧ decide ((v : Int) ≤ 57) = false ∧ LowN v = true :=
  ⟨by omega, by omega, by omega, by omega, decide_eq_true (by omega), decide_eq_true (by omega), decide_eq_true (by omega), decide_eq_false (by omega), by
    unfold LowN
    rw [decide_eq_true (show 97 ≤ v by omega), decide_eq_true (show v ≤ 122 by omega), decide_eq_true (show 48 ≤ v by omega), decide_eq_false (show ¬ v ≤ 57 by omega)]
    rfl⟩
theorem lwc4 {v : Nat} (_h : 123 ≤ v) (_k : v ≤ 255) : 97 ≤ (v : Int) ∧ ¬ ((v : Int) ≤ 122) ∧ 48 ≤ (v : Int) ∧ ¬ ((v : Int) ≤ 57) ∧ decide (97 ≤ (v : Int)) = true ∧ decide ((v : Int) ≤ 122) = false ∧ decide (48 ≤ (v : Int)) = true ∧ decide ((v : Int) ≤ 57) = false ∧ LowN v = false :=
  ⟨by omega, by omega, by omega, by omega, decide_eq_true (by omega), decide_eq_false (by omega), decide_eq_true (by omega), decide_eq_false (by omega), by
    unfold LowN
    rw [decide_eq_true (show 97 ≤ v by omega), decide_eq_false (show ¬ v ≤ 122 by omega), decide_eq_true (show 48 ≤ v by omega), decide_eq_false (show ¬ v ≤ 57 by omega)]
    rfl⟩
/-- The law's first loop: what is plain so far. -/
structure PlA (p s : ByteArray) (pl : Bool) (i : Nat) : Prop where
  le : i ≤ p.size
  is : pl = true → 1 ≤ p.size ∧ p.size ≤ 20 ∧ s.size ≤ 60 ∧ LowTo p i
theorem plA_next {p s : ByteArray} {i : Nat} (h : PlA p s true i) (hi : i < p.size) : PlA p s (LowN p[i].toNat) (i + 1) :=
  ⟨hi, fun hl => ⟨(h.is rfl).1, (h.is rfl).2.1, (h.is rfl).2.2.1, (h.is rfl).2.2.2.next fun _ => hl⟩⟩
theorem plA_start {p s : ByteArray} : PlA p s (decide (1 ≤ p.size ∧ p.size ≤ 20 ∧ s.size ≤ 60)) 0 :=
  ⟨Nat.zero_le _, fun h => ⟨(of_decide_eq_true h).1, (of_decide_eq_true h).2.1, (of_decide_eq_true h).2.2, fun _j _ h => absurd h (Nat.not_lt_zero _)⟩⟩
/-- The law's second loop: the first place found so far. -/
structure AtA (p s : ByteArray) (a : Int) (i : Nat) : Prop where
  no : a < 0 → a = -1 ∧ ∀ k, k < i → ¬ Stands s.data.toList p.data.toList k
  yes : 0 ≤ a → ∃ m : Nat, a = (m : Int) ∧ Stands s.data.toList p.data.toList m ∧ ∀ k, k < m → ¬ Stands s.data.toList p.data.toList k
theorem AtA.start (p s : ByteArray) : AtA p s (-1) 0 := ⟨fun _ => ⟨rfl, fun k h => absurd h (Nat.not_lt_zero _)⟩, fun h => by omega⟩
theorem AtA.found {p s : ByteArray} {i : Nat} (h : AtA p s (-1) i) (hs : Stands s.data.toList p.data.toList i) : AtA p s (i : Int) (i + 1) := ⟨fun h => by omega, fun _ => ⟨i, rfl, hs, (h.no (by omega)).2⟩⟩
theorem AtA.next {p s : ByteArray} {i : Nat} (h : AtA p s (-1) i) (hs : ¬ Stands s.data.toList p.data.toList i) : AtA p s (-1) (i + 1) := ⟨fun _ => ⟨rfl, fun k hk => by
  by_cases e : k = i
  · rw [e]; exact hs
  · exact (h.no (by omega)).2 k (by omega)⟩, fun h => by omega⟩
set_option maxRecDepth 100000 in
set_option maxHeartbeats 4000000 in
theorem mplain_any (p s : ByteArray) (ext : Bool) (w : World) (hM : MaxAt w) (hD : DebAt w) : Calls Tryz.prog 5 #[.string p, .string s, .bool ext] w (TrueC w) := by
  have HA := Lib.hid fun (W : World) (hW : Below w.heap.size w W) => alive10_is W (hM.below hW) (hD.below hW)
  have HP := Lib.hid (parse_v p ext w hM)
  have HD := Lib.hid hD
  have H0 := Lib.hid (St.start w)
  clear hM hD
  go_enter Tryz.func5, Tryz.ntmps5
  go_wp2_with fail
  go_at_call 18
  with_reducible refine HP.out.mono ?_
  rintro e w1 ⟨y, c, rfl, hb1, hy, hz⟩
  obtain ⟨W1, hW1⟩ : ∃ W1, W1 = w1.alloc (.cells #[.int .i64 y.kind, .int .u64 (y.set 0), .int .u64 (y.set 1), .int .u64 (y.set 2), .int .u64 (y.set 3), .int .i64 y.lo, .int .i64 y.hi, .int .i64 y.num, .slice y.A y.n y.c] 28) := ⟨_, rfl⟩
  obtain ⟨b7, hb7⟩ : ∃ b, b = w1.heap.size := ⟨_, rfl⟩
  have H1 := Lib.hid (show St w W1 [(b7, #[.int .i64 y.kind, .int .u64 (y.set 0), .int .u64 (y.set 1), .int .u64 (y.set 2), .int .u64 (y.set 3), .int .i64 y.lo, .int .i64 y.hi, .int .i64 y.num, .slice y.A y.n y.c], 28)] [] from by rw [hW1, hb7]; exact (H0.out.next hb1).box _ _)
  have HY := Lib.hid (fun t ht => (⟨(hy t ht).1, (hy t ht).2.stays (by rw [hW1]; exact bW w1 _)⟩ : c = 0 ∧ IsP (fun _ => False) W1 t y))
  rw [NV.v_eq]
  clear hy hz hb1
  go_upto_region 2 with fail
  rw [← hW1, ← hb7]
  clear hW1 hb7
  obtain ⟨pl0, hpl0⟩ : ∃ b, b = decide (1 ≤ p.size ∧ p.size ≤ 20 ∧ s.size ≤ 60) := ⟨_, rfl⟩
  have HPL := Lib.hid hpl0
  clear hpl0
  go_cut [9] from 21 to 33 (fun t wx => t = .bool pl0 ∧ wx = W1)
  case first =>
    by_cases h1 : 1 ≤ p.size
    · have g1 : decide ((1 : Int) ≤ (p.size : Int)) = true := decide_eq_true (by omega)
      have g1n : decide (1 ≤ p.size) = true := decide_eq_true h1
      by_cases h2 : p.size ≤ 20
      · have g2 : decide ((p.size : Int) ≤ (20 : Int)) = true := decide_eq_true (by omega)
        have g2n : decide (p.size ≤ 20) = true := decide_eq_true h2
        by_cases h3 : s.size ≤ 60
        · have g3 : decide ((s.size : Int) ≤ (60 : Int)) = true := decide_eq_true (by omega)
          have g3n : decide (s.size ≤ 60) = true := decide_eq_true h3
          have HB := Lib.hid (show true = pl0 from by rw [HPL.out, decide_eq_true ⟨h1, h2, h3⟩])
          clear h1 h2 h3
          go_wp2_with fail
          go_meet
          case rel => exact ⟨by rw [HB.out], rfl⟩
        · have g3 : decide ((s.size : Int) ≤ (60 : Int)) = false := decide_eq_false (by omega)
          have g3n : decide (s.size ≤ 60) = false := decide_eq_false h3
          have HB := Lib.hid (show false = pl0 from by rw [HPL.out, decide_eq_false fun h => h3 h.2.2])
          clear h1 h2 h3
          go_wp2_with fail
          go_meet
          case rel => exact ⟨by rw [HB.out], rfl⟩
      · have g2 : decide ((p.size : Int) ≤ (20 : Int)) = false := decide_eq_false (by omega)
        have g2n : decide (p.size ≤ 20) = false := decide_eq_false h2
        have HB := Lib.hid (show false = pl0 from by rw [HPL.out, decide_eq_false fun h => h2 h.2.1])
        clear h1 h2
        go_wp2_with fail
        go_meet
        case rel => exact ⟨by rw [HB.out], rfl⟩
    · have g1 : decide ((1 : Int) ≤ (p.size : Int)) = false := decide_eq_false (by omega)
      have g1n : decide (1 ≤ p.size) = false := decide_eq_false h1
      have HB := Lib.hid (show false = pl0 from by rw [HPL.out, decide_eq_false fun h => h1 h.1])
      clear h1
      go_wp2_with fail
      go_meet
      case rel => exact ⟨by rw [HB.out], rfl⟩
  obtain ⟨rfl, hwc⟩ := hcut
  have hwc2 := hwc.symm
  clear hwc
  subst hwc2
  have HS0 := Lib.hid (show PlA p s pl0 0 from by rw [HPL.out]; exact plA_start)
  go_wp2_with fail
  go_loopw [9, 10] (fun pv iv wr => ∃ (i : Nat) (pl : Bool), iv = .int .i64 (i : Int) ∧ pv = .bool pl ∧ Hid (PlA p s pl i) ∧ wr = W1) (fun _ iv _ => p.size - (intOf iv).toNat)
  case atStart => exact ⟨0, pl0, rfl, rfl, HS0, rfl⟩
  case round =>
  obtain ⟨i, pl, rfl, rfl, HPA, hwr⟩ := hrel
  have hwr2 := hwr.symm
  clear hwr
  subst hwr2
  have hi0 : (0 : Int) ≤ (i : Int) := by omega
  by_cases hgo : i < p.size ∧ pl = true
  · obtain ⟨hlt, rfl⟩ := hgo
    have hiI : (i : Int) < (p.size : Int) := by omega
    have hib : i < 140737488355328 := by have := (HPA.out.is rfl).2.1; omega
    obtain ⟨q, hq⟩ : ∃ q, q = LowN p[i].toNat := ⟨_, rfl⟩
    have HQ := Lib.hid hq
    have HNX := Lib.hid (show PlA p s q (i + 1) from by rw [hq]; exact plA_next HPA.out hlt)
    clear hq
    have hwr1 : wrap64 ((i : Int) + 1) = (i : Int) + 1 := IntWalk.wrap64_in _ (by omega)
    have HLT := Lib.hid hlt
    by_cases h47 : p[i].toNat ≤ 47
    · obtain ⟨f1, f2, f3, f4, f5, f6, f7, f8, g3⟩ := lwc0 (Nat.zero_le _) h47
      have HN2 := Lib.hid (show PlA p s false (i + 1) from by rw [← HQ.out.trans g3]; exact HNX.out)
      clear h47 g3
      go_wp2_with fail
      go_roundw
      case rel => exact ⟨i + 1, false, by go_num, by first | rfl | exact congrArg Value.bool f8 | exact congrArg Value.bool (Bool.or_eq_false_iff.2 ⟨f6, f8⟩), HN2, by first | rfl | trivial⟩
      case measure => have := HLT.out; simp [intOf]; omega
    by_cases h57 : p[i].toNat ≤ 57
    · obtain ⟨f1, f2, f3, f4, f5, f6, f7, f8, g3⟩ := lwc1 (Nat.lt_of_not_le h47) h57
      have HN2 := Lib.hid (show PlA p s true (i + 1) from by rw [← HQ.out.trans g3]; exact HNX.out)
      clear h47 h57 g3
      go_wp2_with fail
      go_roundw
      case rel => exact ⟨i + 1, true, by go_num, by first | rfl | exact congrArg Value.bool f8 | exact congrArg Value.bool (Bool.or_eq_false_iff.2 ⟨f6, f8⟩), HN2, by first | rfl | trivial⟩
      case measure => have := HLT.out; simp [intOf]; omega
    by_cases h96 : p[i].toNat ≤ 96
    · obtain ⟨f1, f2, f3, f4, f5, f6, f7, f8, g3⟩ := lwc2 (Nat.lt_of_not_le h57) h96
      have HN2 := Lib.hid (show PlA p s false (i + 1) from by rw [← HQ.out.trans g3]; exact HNX.out)
      clear h47 h57 h96 g3
      go_wp2_with fail
      go_roundw
      case rel => exact ⟨i + 1, false, by go_num, by first | rfl | exact congrArg Value.bool f8 | exact congrArg Value.bool (Bool.or_eq_false_iff.2 ⟨f6, f8⟩), HN2, by first | rfl | trivial⟩
      case measure => have := HLT.out; simp [intOf]; omega
    by_cases h122 : p[i].toNat ≤ 122
    · obtain ⟨f1, f2, f3, f4, f5, f6, f7, f8, g3⟩ := lwc3 (Nat.lt_of_not_le h96) h122
      have HN2 := Lib.hid (show PlA p s true (i + 1) from by rw [← HQ.out.trans g3]; exact HNX.out)
      clear h47 h57 h96 h122 g3
      go_wp2_with fail
      go_roundw
      case rel => exact ⟨i + 1, true, by go_num, by first | rfl | exact congrArg Value.bool f8 | exact congrArg Value.bool (Bool.or_eq_false_iff.2 ⟨f6, f8⟩), HN2, by first | rfl | trivial⟩
      case measure => have := HLT.out; simp [intOf]; omega
    · obtain ⟨f1, f2, f3, f4, f5, f6, f7, f8, g3⟩ := lwc4 (Nat.lt_of_not_le h122) (Nat.le_of_lt_succ (UInt8.toNat_lt _))
      have HN2 := Lib.hid (show PlA p s false (i + 1) from by rw [← HQ.out.trans g3]; exact HNX.out)
      clear h47 h57 h96 h122 g3
      go_wp2_with fail
      go_roundw
      case rel => exact ⟨i + 1, false, by go_num, by first | rfl | exact congrArg Value.bool f8 | exact congrArg Value.bool (Bool.or_eq_false_iff.2 ⟨f6, f8⟩), HN2, by first | rfl | trivial⟩
      case measure => have := HLT.out; simp [intOf]; omega
  cases pl with
  | false =>
    clear hgo
    by_cases hlt : i < p.size
    · have hiI : (i : Int) < (p.size : Int) := by omega
      clear hlt
      go_wp2_with fail
      go_at_call 15
      with_reducible refine (HA.out _ H1.out.bel).mono ?_
      rintro e wz ⟨rfl, hb⟩
      have HBB := Lib.hid (H1.out.bel.trans (hb.mono H1.out.bel.size))
      clear hb
      go_wp2_with fail
      go_ret
      exact ⟨rfl, HBB.out⟩
    · have hiI : ¬ (i : Int) < (p.size : Int) := by omega
      clear hlt
      go_wp2_with fail
      go_at_call 15
      with_reducible refine (HA.out _ H1.out.bel).mono ?_
      rintro e wz ⟨rfl, hb⟩
      have HBB := Lib.hid (H1.out.bel.trans (hb.mono H1.out.bel.size))
      clear hb
      go_wp2_with fail
      go_ret
      exact ⟨rfl, HBB.out⟩
  | true =>
  have hie : i = p.size := by
    have hle := HPA.out.le
    rcases Nat.lt_or_ge i p.size with e | e
    · exact absurd ⟨e, rfl⟩ hgo
    · omega
  subst hie
  have hiI : ¬ (p.size : Int) < (p.size : Int) := by omega
  obtain ⟨hz1, hz2, hs60, hlow⟩ := HPA.out.is rfl
  have hall := LowTo.all hlow
  have hlen : p.data.toList.length = p.size := by simp
  have hne : p.data.toList ≠ [] := by intro h; rw [h] at hlen; simp at hlen; omega
  have hpp := parse_plain bkOf ext hall hne (by omega)
  obtain ⟨hc, hyt⟩ := HY.out _ hpp
  subst hc
  have H2 := Lib.hid (show St w W1 [(b7, #[.int .i64 y.kind, .int .u64 (y.set 0), .int .u64 (y.set 1), .int .u64 (y.set 2), .int .u64 (y.set 3), .int .i64 y.lo, .int .i64 y.hi, .int .i64 y.num, .slice y.A y.n y.c], 28)] [(joinK 2 (p.data.toList.map oneN), y)] from H1.out.tree hyt)
  have HNN := Lib.hid (And.intro hne (And.intro hlen (parse_nods hpp)))
  have HZ := Lib.hid (And.intro hz1 (And.intro hz2 hs60))
  clear hgo hlow hall hpp hyt hlen hne hz1 hz2 hs60
  go_upto_region 9 with fail
  clear hiI hi0
  go_wp2_with fail
  go_loopw [11, 12] (fun av iv wr => ∃ (i : Nat) (a : Int), iv = .int .i64 (i : Int) ∧ av = .int .i64 a ∧ Hid (AtA p s a i) ∧ Hid (i ≤ 1000) ∧ wr = W1) (fun _ iv _ => s.size + 1 - (intOf iv).toNat)
  case atStart => exact ⟨0, -1, rfl, rfl, Lib.hid (AtA.start p s), Lib.hid (by omega), rfl⟩
  case round =>
  obtain ⟨i, a, rfl, rfl, HAA, HIB, hwr⟩ := hrel
  have hwr2 := hwr.symm
  clear hwr
  subst hwr2
  have HBZ := Lib.hid HZ.out
  by_cases hlt0 : a < 0
  · obtain ⟨rfl, hno⟩ := HAA.out.no hlt0
    have HNO := Lib.hid hno
    clear hno
    by_cases hle : i + p.size ≤ s.size
    · obtain ⟨e, he⟩ : ∃ e, e = i + p.size := ⟨_, rfl⟩
      have hadd : IntKind.i64.wrap ((i : Int) + (p.size : Int)) = (e : Int) := by rw [IntWalk.i64_in _ (by have := HZ.out.2.2; omega)]; omega
      have heI : (e : Int) ≤ (s.size : Int) := by omega
      have heN : e ≤ s.size := by omega
      have deI : decide ((e : Int) ≤ (s.size : Int)) = true := decide_eq_true heI
      have deN : decide (e ≤ s.size) = true := decide_eq_true heN
      obtain ⟨X, hX⟩ : ∃ X, X = txt ((s.data.toList.take e).drop i) := ⟨_, rfl⟩
      have hsl : ∀ W, (Instr.slice 9 (.string s) (some (.int .i64 (i : Int))) (some (.int .i64 (e : Int))) none).run Tryz.prog W = .ok (.string X) W := fun W => by rw [hX]; exact str_slice (txt_of s).symm (by omega) (by simpa using heN) W
      have HE := Lib.hid (And.intro he hX)
      have hib : i < 140737488355328 := by have := HZ.out.2.2; omega
      by_cases hq : (X.toList == p.toList) = true
      · have HNX := Lib.hid (HAA.out.found ((stands_iff (by show i + p.size ≤ s.size; omega)).1 (by rw [show i + p.data.toList.length = e from he.symm]; rw [beq_iff_eq, ByteArray.toList_eq, ByteArray.toList_eq, hX] at hq; exact hq)))
        have HII := Lib.hid (show i < s.size + 1 by omega)
        clear he hX hle hlt0
        go_wp2_with fail
        go_roundw
        case rel => exact ⟨i + 1, (i : Int), by go_num, rfl, HNX, Lib.hid (by have := HII.out; have := HZ.out.2.2; omega), by first | rfl | trivial⟩
        case measure => have := HII.out; simp [intOf]; omega
      · have HNX := Lib.hid (HAA.out.next fun hs => hq (by rw [beq_iff_eq, ByteArray.toList_eq, ByteArray.toList_eq, hX]; have h2 := (stands_iff (by show i + p.size ≤ s.size; omega)).2 hs; rw [show i + p.data.toList.length = e from he.symm] at h2; exact h2))
        have HII := Lib.hid (show i < s.size + 1 by omega)
        have hqf : (X.toList == p.toList) = false := by simpa using hq
        clear he hX hle hlt0 hq
        go_wp2_with fail
        go_roundw
        case rel => exact ⟨i + 1, -1, by go_num, rfl, HNX, Lib.hid (by have := HII.out; have := HZ.out.2.2; omega), by first | rfl | trivial⟩
        case measure => have := HII.out; simp [intOf]; omega
    · obtain ⟨e, he⟩ : ∃ e, e = i + p.size := ⟨_, rfl⟩
      have HNO2 := Lib.hid (show ∀ k, ¬ Stands s.data.toList p.data.toList k from fun k hs => by
        have h2 := hs.fit HNN.out.1
        exact HNO.out k (by have h3 : k + p.size ≤ s.size := h2; omega) hs)
      have HT := Lib.hid (show s.data.toList.length ≤ 1024 by show s.size ≤ 1024; have := HZ.out.2.2; omega)
      by_cases hbig : i ≤ 1000
      · have hadd : IntKind.i64.wrap ((i : Int) + (p.size : Int)) = (e : Int) := by rw [IntWalk.i64_in _ (by have := HZ.out.2.1; omega)]; omega
        have heI : ¬ (e : Int) ≤ (s.size : Int) := by omega
        have deI : decide ((e : Int) ≤ (s.size : Int)) = false := decide_eq_false heI
        have deN : decide (e ≤ s.size) = false := decide_eq_false (by omega)
        clear he hle hlt0 hbig
        go_upto_region 15 with fail
        clear hadd heI deI deN
        obtain ⟨e0, e1, e2, e3, e4, e5, e6, e7, e8⟩ := node_box (H2.out.ob 0 rfl)
        have hle := lt_of_some (H2.out.ob 0 rfl)
        have hfi := find_is (s := s) false 0 (H2.out.tr 0 rfl) (HD.out.below H2.out.bel) (by have := HNN.out.2.2; omega)
        rw [NV.v_eq] at hfi
        have HF := Lib.hid hfi
        clear hfi
        go_wp2_with fail
        go_at_call 16
        with_reducible refine HF.out.mono ?_
        rintro e w3 ⟨sx, ok, rfl, hfr, hbf⟩
        rename_i hK
        refine hK _ _ ?_
        clear hK
        iterate 4
          refine wpList_plain rfl (fun K2 hK2 => ?_)
          go_simp
          refine hK2 _ _ ?_
          clear hK2 K2
          try simp only [Act.put, List.setIfInBounds_toArray, List.set_cons_zero, List.set_cons_succ]
        refine wpList_mat_store rfl (.tmp 13) (.tmp 95) rfl sx rfl rfl ?_
        clear e0 e1 e2 e3 e4 e5 e6 e7 e8 hle
        obtain ⟨W3, hW3⟩ : ∃ W3, W3 = w3.alloc (.cells (spC sx) 34) := ⟨_, rfl⟩
        obtain ⟨b13, hb13⟩ : ∃ b, b = w3.heap.size := ⟨_, rfl⟩
        have H3 := Lib.hid (show St w W3 [(b13, spC sx, 34), (b7, #[.int .i64 y.kind, .int .u64 (y.set 0), .int .u64 (y.set 1), .int .u64 (y.set 2), .int .u64 (y.set 3), .int .i64 y.lo, .int .i64 y.hi, .int .i64 y.num, .slice y.A y.n y.c], 28)] [(joinK 2 (p.data.toList.map oneN), y)] from by rw [hW3, hb13]; exact (H2.out.next hbf).box _ _)
        have hpf := plain_find HNN.out.1 HT.out hfr
        have HPF := Lib.hid hpf
        clear hpf
        clear hfr hbf
        go_upto_region 16 with fail
        rw [← hW3, ← hb13]
        clear hW3 hb13
        have hok := HPF.out.2 HNO2.out
        subst hok
        go_wp2_with fail
        go_at_call 15
        with_reducible refine (HA.out _ H3.out.bel).mono ?_
        rintro e wz ⟨rfl, hb⟩
        have HBB := Lib.hid (H3.out.bel.trans (hb.mono H3.out.bel.size))
        clear hb
        go_wp2_with fail
        go_ret
        exact ⟨rfl, HBB.out⟩
      · exact absurd HIB.out hbig
  · obtain ⟨m, rfl, hst, hno⟩ := HAA.out.yes (by omega)
    have HST := Lib.hid (And.intro hst hno)
    have HT := Lib.hid (show s.data.toList.length ≤ 1024 by show s.size ≤ 1024; have := HZ.out.2.2; omega)
    have dmI : decide ((m : Int) < 0) = false := decide_eq_false hlt0
    clear hst hno
    go_upto_region 15 with fail
    obtain ⟨e0, e1, e2, e3, e4, e5, e6, e7, e8⟩ := node_box (H2.out.ob 0 rfl)
    have hle := lt_of_some (H2.out.ob 0 rfl)
    have hfi := find_is (s := s) false 0 (H2.out.tr 0 rfl) (HD.out.below H2.out.bel) (by have := HNN.out.2.2; omega)
    rw [NV.v_eq] at hfi
    have HF := Lib.hid hfi
    clear hfi
    go_wp2_with fail
    go_at_call 16
    with_reducible refine HF.out.mono ?_
    rintro e w3 ⟨sx, ok, rfl, hfr, hbf⟩
    rename_i hK
    refine hK _ _ ?_
    clear hK
    iterate 4
      refine wpList_plain rfl (fun K2 hK2 => ?_)
      go_simp
      refine hK2 _ _ ?_
      clear hK2 K2
      try simp only [Act.put, List.setIfInBounds_toArray, List.set_cons_zero, List.set_cons_succ]
    refine wpList_mat_store rfl (.tmp 13) (.tmp 95) rfl sx rfl rfl ?_
    clear e0 e1 e2 e3 e4 e5 e6 e7 e8 hle
    obtain ⟨W3, hW3⟩ : ∃ W3, W3 = w3.alloc (.cells (spC sx) 34) := ⟨_, rfl⟩
    obtain ⟨b13, hb13⟩ : ∃ b, b = w3.heap.size := ⟨_, rfl⟩
    have H3 := Lib.hid (show St w W3 [(b13, spC sx, 34), (b7, #[.int .i64 y.kind, .int .u64 (y.set 0), .int .u64 (y.set 1), .int .u64 (y.set 2), .int .u64 (y.set 3), .int .i64 y.lo, .int .i64 y.hi, .int .i64 y.num, .slice y.A y.n y.c], 28)] [(joinK 2 (p.data.toList.map oneN), y)] from by rw [hW3, hb13]; exact (H2.out.next hbf).box _ _)
    have hpf := plain_find HNN.out.1 HT.out hfr
    have HPF := Lib.hid hpf
    clear hpf
    clear hfr hbf
    go_upto_region 16 with fail
    rw [← hW3, ← hb13]
    clear hW3 hb13
    obtain ⟨hok, hs0, hs1⟩ := HPF.out.1 m HST.out.1 HST.out.2
    subst hok
    have hfit := HST.out.1.fit HNN.out.1
    have hfit2 : m + p.size ≤ s.size := hfit
    obtain ⟨z, hz⟩ : ∃ z, z = m + p.size := ⟨_, rfl⟩
    have hadd : IntKind.i64.wrap ((m : Int) + (p.size : Int)) = (z : Int) := by rw [IntWalk.i64_in _ (by have := HZ.out.2.2; omega)]; omega
    have hs0' : sx 0 = ((m : Int), (z : Int)) := by rw [hs0, hz]; rfl
    have HSS := Lib.hid (And.intro hs0' hs1)
    clear hs0 hs0' hs1 hfit hfit2 hz
    go_wp2_with fail
    go_at_call 15
    with_reducible refine (HA.out _ H3.out.bel).mono ?_
    rintro e wz ⟨rfl, hb⟩
    have HW9 := Lib.hid (H3.out.next hb)
    obtain ⟨p0, p1⟩ := mat_box (HW9.out.ob 0 rfl) HSS.out.1
    obtain ⟨p2, p3⟩ := mat_box1 (HW9.out.ob 0 rfl) HSS.out.2
    have pl := lt_of_some (HW9.out.ob 0 rfl)
    have HBB := Lib.hid (H3.out.bel.trans (hb.mono H3.out.bel.size))
    clear hb
    go_wp2_with fail
    go_ret
    exact ⟨rfl, HBB.out⟩
end Go.Proofs.YtcbgbicdfpkikaaGreatDoor

/-
  The document's fault: the first error of commands, and its place. Condition: texts in memory.
-/
import Derived.Test.YthlkmlphbepnpaaPg23
import Derived.Test.YthlkmlphbepnpaaPg8
namespace Go.Proofs.Ythlkmlphbepnpaa
open Go.RowKit Go.Deep

/-- What fault answers. -/
def FauR (l : List CM) (re im : Nat) (x : Int) : Prop :=
  (200 < l.length ∧ re = 0 ∧ im = 0 ∧ x = 143) ∨
  (l.length ≤ 200 ∧ ∃ i c, l[i]? = some c ∧ CB (cN l) l.length (some i) ∧ re = c.re ∧ im = c.im ∧ x = 142) ∨
  (l.length ≤ 200 ∧ CB (cN l) l.length none ∧ ∃ i c, l[i]? = some c ∧ LB (cN l) (cT l) l.length (some i) ∧ re = c.re ∧ im = c.im ∧ x = 141) ∨
  (l.length ≤ 200 ∧ CB (cN l) l.length none ∧ LB (cN l) (cT l) l.length none ∧ re = 0 ∧ im = 0 ∧ x = 0)
theorem full_text {t : ByteArray} (h : t ≠ ⟨#[]⟩) : t.toList.isEmpty = false := by
  cases hx : t.toList with
  | nil =>
    exfalso
    apply h
    have : t.data.toList = [] := by rw [← ByteArray.toList_eq]; exact hx
    rw [← txt_of t, this]
    rfl
  | cons => rfl
/-- The last brace that is not closed stands on the top. -/
theorem left_of {N : Nat → Int} {n i : Nat} {S : List Nat} (hS : stk N n = some S) (hi : i < n) (h123 : N i = 123) (hno : ∀ j, j < n → ¬ Closes N i j) (hall : ∀ b, i < b → b < n → N b = 123 → ∃ j, j < n ∧ Closes N b j) : CB N n (some i) := by
  have hmem : i ∈ S := by
    by_cases h : i ∈ S
    · exact h
    · obtain ⟨j, hj, hc⟩ := closes_ex hi h123 hS h
      exact absurd hc (hno j hj)
  have hp := stk_mem hS
  cases S with
  | nil => cases hmem
  | cons a t =>
    have ha := hp.2 a (List.mem_cons_self ..)
    have hai : ¬ i < a := fun h => by
      obtain ⟨j, hj, hc⟩ := hall a h ha.1 ha.2
      obtain ⟨u, hu, hn⟩ := closes_gone hc
      exact stk_gone hu (by have := (closes_lt hc).1; omega) hn n hj _ hS (List.mem_cons_self ..)
    rcases List.mem_cons.1 hmem with rfl | hm
    · exact .left i t hS
    · have := (List.pairwise_cons.1 hp.1).1 i hm
      omega
theorem none_left {N : Nat → Int} {n : Nat} {S : List Nat} (hS : stk N n = some S) (hall : ∀ b, b < n → N b = 123 → ∃ j, j < n ∧ Closes N b j) : CB N n none := by
  cases S with
  | nil => exact .ok hS
  | cons a t =>
    have ha := (stk_mem hS).2 a (List.mem_cons_self ..)
    obtain ⟨j, hj, hc⟩ := hall a ha.1 ha.2
    obtain ⟨u, hu, hn⟩ := closes_gone hc
    exact absurd (List.mem_cons_self ..) (stk_gone hu (by have := (closes_lt hc).1; omega) hn n hj _ hS)
set_option maxRecDepth 100000 in
set_option maxHeartbeats 8000000 in
theorem fault_is {l : List CM} {cl : Nat} {A : Option Addr} {w : World} (hr : RawAt w A (cmV l)) :
    Calls Try.prog 21 #[.slice A l.length cl] w fun e w' => ∃ re im x, e = .returned (.tuple #[.complex .f64 re im, .int .i64 x]) ∧ FauR l re im x ∧ w' = w := by
  by_cases h200 : 200 < l.length
  · have g1 : decide ((200 : Int) < (l.length : Int)) = true := decide_eq_true (by omega)
    have g1n : decide (200 < l.length) = true := decide_eq_true h200
    have HL := Lib.hid h200
    clear hr h200
    go_enter Try.func21, Try.ntmps21
    go_wp2_with fail
    refine bodyPost_ret (v := .tuple #[.complex .f64 0 0, .int .i64 143]) (by simp [results, Try.results21, go_sem]) rfl ⟨_, _, _, rfl, .inl ⟨HL.out, rfl, rfl, rfl⟩, rfl⟩
  have hl : l.length ≤ 200 := by omega
  have g1 : decide ((200 : Int) < (l.length : Int)) = false := decide_eq_false (by omega)
  have g1n : decide (200 < l.length) = false := decide_eq_false h200
  have HR := Lib.hid hr
  have HL := Lib.hid hl
  have HOP := Lib.hid fun (k : Nat) (s : List Nat) (hk : k ≤ l.length) (hs : stk (cN l) k = some s) => opens_is (cl := cl) hr (by omega) hk hs
  have HCL := Lib.hid fun (k : Nat) (s : List Nat) (hk : k < l.length) (h : cN l k = 123) (hs : stk (cN l) l.length = some s) => closed_is (cl := cl) hr (by omega) hk h hs
  have HLA := Lib.hid fun (t : ByteArray) => label_is (cl := cl) t hr (by omega)
  have hll0 : IntKind.i64.wrap ((l.length : Int) - 1) = (l.length : Int) - 1 := IntWalk.i64_in _ (by omega)
  clear hr hl h200
  go_enter Try.func21, Try.ntmps21
  go_wp2_with fail
  go_loopw [4] (fun kv wz => ∃ k : Nat, kv = .int .i64 (k : Int) ∧ Hid (k ≤ l.length ∧ ∃ s, stk (cN l) k = some s) ∧ wz = w) (fun kv _ => l.length + 1 - (intOf kv).toNat)
  case atStart => exact ⟨0, rfl, Lib.hid ⟨Nat.zero_le _, [], rfl⟩, rfl⟩
  case round =>
    obtain ⟨k, rfl, HJ, rfl⟩ := hrel
    have hle := HJ.out.1
    have hl := HL.out
    obtain ⟨s, hs⟩ := HJ.out.2
    by_cases hk : k < l.length
    case pos =>
      obtain ⟨c, hc⟩ : ∃ c, l[k]? = some c := ⟨l[k], by simp [hk]⟩
      obtain ⟨g, o, rfl, kN, kT, kP⟩ := row_name HR.out hc
      have hki : (k : Int) < (l.length : Int) := by omega
      have hd : decide ((k : Int) < (l.length : Int)) = true := decide_eq_true hki
      have hdn : decide (k < l.length) = true := decide_eq_true hk
      have hwk : IntKind.i64.wrap ((k : Int) + 1) = ((k + 1 : Nat) : Int) := by rw [IntWalk.i64_in _ (by omega)]; omega
      obtain ⟨k1, hk1⟩ : ∃ k1, k1 = k + 1 := ⟨_, rfl⟩
      rw [← hk1] at hwk
      have HK1 := Lib.hid (And.intro hk1 hk)
      have HCC := Lib.hid hc
      have hnm := cN_at hc
      have htx := cT_at hc
      have HOK := Lib.hid (HOP.out k s hle hs)
      by_cases h1 : c.name = 125
      · have g2 : (c.name == 125) = true := by rw [h1]; rfl
        cases s with
        | nil =>
          have HE := Lib.hid (show CB (cN l) l.length (some k) from .bad k hk (by rw [hnm]; exact h1) hs)
          clear hll0 hle hl hs hk hc hk1 hnm htx h1
          simp only [List.length_nil] at HOK
          go_wp2_with fail
          go_at_call 31
          with_reducible refine HOK.out.mono ?_
          rintro e w1 ⟨rfl, rfl⟩
          go_wp2_with fail
          refine bodyPost_ret (v := .tuple #[.complex .f64 c.re c.im, .int .i64 142]) (by simp [results, Try.results21, go_sem]) rfl ⟨_, _, _, rfl, .inr (.inl ⟨HL.out, k, c, HCC.out, HE.out, rfl, rfl, rfl⟩), rfl⟩
        | cons b t =>
          have HN := Lib.hid (show k1 ≤ l.length ∧ ∃ s, stk (cN l) k1 = some s by rw [hk1]; exact ⟨hk, t, stk_shut hs (by rw [hnm]; exact h1)⟩)
          obtain ⟨p, hp⟩ : ∃ p, p = (b :: t).length := ⟨_, rfl⟩
          rw [← hp] at HOK
          have e0 : ((p : Int) == 0) = false := by rw [beq_eq_false_iff_ne, hp, List.length_cons]; omega
          have e0n : (p == 0) = false := by rw [beq_eq_false_iff_ne, hp, List.length_cons]; omega
          clear hle hl hs hk hc hk1 hnm htx h1 hp
          go_wp2_with fail
          go_at_call 31
          with_reducible refine HOK.out.mono ?_
          rintro e w1 ⟨rfl, rfl⟩
          go_wp2_with fail
          go_roundw
          case rel => exact ⟨k1, rfl, HN, trivial⟩
          case measure => have := HK1.out; simp [intOf] <;> omega
      · have g2 : (c.name == 125) = false := by rw [beq_eq_false_iff_ne]; exact h1
        have n2 : ¬ c.name = 125 := h1
        have HN := Lib.hid (show k1 ≤ l.length ∧ ∃ s, stk (cN l) k1 = some s by
          rw [hk1]
          refine ⟨hk, ?_⟩
          by_cases h3 : cN l k = 123
          · exact ⟨_, stk_open hs h3⟩
          · exact ⟨_, stk_other hs h3 (by rw [hnm]; exact h1)⟩)
        clear hle hl hs hk hc hk1 hnm htx h1
        go_wp2_with fail
        go_roundw
        case rel => exact ⟨k1, rfl, HN, trivial⟩
        case measure => have := HK1.out; simp [intOf] <;> omega
    case neg =>
    have hd : decide ((k : Int) < (l.length : Int)) = false := decide_eq_false (by omega)
    have hdn : decide (k < l.length) = false := decide_eq_false hk
    have hll : (l.length : Int) ≤ (k : Int) := by omega
    obtain ⟨S, hS⟩ : ∃ S, stk (cN l) l.length = some S := ⟨s, by rwa [show k = l.length by omega] at hs⟩
    have HSS := Lib.hid hS
    clear hle hl hs hk hS HJ
    go_upto_region 9 with fail
    clear hd hdn hll
    go_wp2_with fail
    go_loopw [5] (fun kv wz => ∃ j : Nat, kv = .int .i64 ((j : Int) - 1) ∧ Hid (j ≤ l.length ∧ ∀ b, j ≤ b → b < l.length → cN l b = 123 → ∃ i, i < l.length ∧ Closes (cN l) b i) ∧ wz = wr) (fun kv _ => (intOf kv + 1).toNat)
    case atStart => exact ⟨l.length, rfl, Lib.hid ⟨Nat.le_refl _, fun b h1 h2 => by omega⟩, rfl⟩
    case round =>
      obtain ⟨j, rfl, HJ, rfl⟩ := hrel
      have hle := HJ.out.1
      have hl := HL.out
      by_cases hj : j = 0
      case neg =>
        obtain ⟨k, hjk⟩ : ∃ k, j = k + 1 := ⟨j - 1, by omega⟩
        have hk : k < l.length := by omega
        rw [show ((j : Int) - 1) = (k : Int) by omega]
        obtain ⟨c, hc⟩ : ∃ c, l[k]? = some c := ⟨l[k], by simp [hk]⟩
        obtain ⟨g, o, rfl, kN, kT, kP⟩ := row_name HR.out hc
        have hki : (k : Int) < (l.length : Int) := by omega
        have hd : decide ((k : Int) < (l.length : Int)) = true := decide_eq_true hki
        have hdn : decide (k < l.length) = true := decide_eq_true hk
        have hwk : IntKind.i64.wrap ((k : Int) + 1) = ((k + 1 : Nat) : Int) := by rw [IntWalk.i64_in _ (by omega)]; omega
        obtain ⟨k1, hk1⟩ : ∃ k1, k1 = k + 1 := ⟨_, rfl⟩
        rw [← hk1] at hwk
        have HK1 := Lib.hid (And.intro hk1 hk)
        have HCC := Lib.hid hc
        have hnm := cN_at hc
        have htx := cT_at hc
        have hk0 : (0 : Int) ≤ (k : Int) := by omega
        have e1 : decide ((0 : Int) ≤ (k : Int)) = true := decide_eq_true hk0
        have hwm : IntKind.i64.wrap ((k : Int) - 1) = (k : Int) - 1 := IntWalk.i64_in _ (by omega)
        by_cases h1 : c.name = 123
        · have g2 : (c.name == 123) = true := by rw [h1]; rfl
          have HCK := Lib.hid (HCL.out k S hk (by rw [hnm]; exact h1) HSS.out)
          have HJK := Lib.hid (And.intro hjk (And.intro hk (show cN l k = 123 by rw [hnm]; exact h1)))
          clear hwk hle hl hk hc hk1 hnm htx h1 hj hjk
          go_wp2_with fail
          go_at_call 22
          with_reducible refine HCK.out.mono ?_
          rintro e w1 ⟨r, rfl, hcr, rfl⟩
          rcases hcr with ⟨m, hm, hcm, rfl⟩ | ⟨hno, rfl⟩
          · have q1 : decide ((m : Int) < 0) = false := decide_eq_false (by omega)
            have q2 : ¬ (m : Int) < 0 := by omega
            have q3 : (0 : Int) ≤ (m : Int) := by omega
            have HN := Lib.hid (show k ≤ l.length ∧ ∀ b, k ≤ b → b < l.length → cN l b = 123 → ∃ i, i < l.length ∧ Closes (cN l) b i by
              have h5 := HJK.out
              refine ⟨by omega, fun b h1 h2 h3 => ?_⟩
              rcases Nat.lt_or_ge k b with h | h
              · exact HJ.out.2 b (by omega) h2 h3
              · obtain rfl : b = k := by omega
                exact ⟨m, hm, hcm⟩)
            clear hm hcm
            go_wp2_with fail
            go_roundw
            case rel => exact ⟨k, rfl, HN, trivial⟩
            case measure => have := HJK.out.1; simp [intOf] <;> omega
          · have HE := Lib.hid (show CB (cN l) l.length (some k) from left_of HSS.out HJK.out.2.1 HJK.out.2.2 hno fun b h1 h2 h3 => HJ.out.2 b (by have := HJK.out.1; omega) h2 h3)
            clear hno
            go_wp2_with fail
            refine bodyPost_ret (v := .tuple #[.complex .f64 c.re c.im, .int .i64 142]) (by simp [results, Try.results21, go_sem]) rfl ⟨_, _, _, rfl, .inr (.inl ⟨HL.out, k, c, HCC.out, HE.out, rfl, rfl, rfl⟩), rfl⟩
        · have g2 : (c.name == 123) = false := by rw [beq_eq_false_iff_ne]; exact h1
          have n2 : ¬ c.name = 123 := h1
          have HJK := Lib.hid (And.intro hjk hk)
          have HN := Lib.hid (show k ≤ l.length ∧ ∀ b, k ≤ b → b < l.length → cN l b = 123 → ∃ i, i < l.length ∧ Closes (cN l) b i by
            refine ⟨by omega, fun b h4 h2 h3 => ?_⟩
            rcases Nat.lt_or_ge k b with h | h
            · exact HJ.out.2 b (by omega) h2 h3
            · obtain rfl : b = k := by omega
              rw [hnm] at h3
              exact absurd h3 h1)
          clear hwk hle hl hk hc hk1 hnm htx h1 hj hjk
          go_wp2_with fail
          go_roundw
          case rel => exact ⟨k, rfl, HN, trivial⟩
          case measure => have := HJK.out.1; simp [intOf] <;> omega
      case pos =>
      subst hj
      have HCB := Lib.hid (show CB (cN l) l.length none from none_left HSS.out fun b h2 h3 => HJ.out.2 b (Nat.zero_le _) h2 h3)
      rw [show (((0 : Nat) : Int) - 1) = -1 by omega]
      clear hle hl HJ
      go_upto_region 14 with fail
      go_wp2_with fail
      go_loopw [6] (fun kv wz => ∃ k : Nat, kv = .int .i64 (k : Int) ∧ Hid (k ≤ l.length ∧ Dis (cN l) (cT l) k) ∧ wz = wr) (fun kv _ => l.length + 1 - (intOf kv).toNat)
      case atStart => exact ⟨0, rfl, Lib.hid ⟨Nat.zero_le _, fun i hi => absurd hi (Nat.not_lt_zero i)⟩, rfl⟩
      case round =>
      obtain ⟨k, rfl, HJ, rfl⟩ := hrel
      have hle := HJ.out.1
      have hl := HL.out
      by_cases hk : k < l.length
      case pos =>
        obtain ⟨c, hc⟩ : ∃ c, l[k]? = some c := ⟨l[k], by simp [hk]⟩
        obtain ⟨g, o, rfl, kN, kT, kP⟩ := row_name HR.out hc
        have hki : (k : Int) < (l.length : Int) := by omega
        have hd : decide ((k : Int) < (l.length : Int)) = true := decide_eq_true hki
        have hdn : decide (k < l.length) = true := decide_eq_true hk
        have hwk : IntKind.i64.wrap ((k : Int) + 1) = ((k + 1 : Nat) : Int) := by rw [IntWalk.i64_in _ (by omega)]; omega
        obtain ⟨k1, hk1⟩ : ∃ k1, k1 = k + 1 := ⟨_, rfl⟩
        rw [← hk1] at hwk
        have HK1 := Lib.hid (And.intro hk1 hk)
        have HCC := Lib.hid hc
        have hnm := cN_at hc
        have htx := cT_at hc
        by_cases h1 : c.name = 58
        · have g2 : (c.name == 58) = true := by rw [h1]; rfl
          have HLK := Lib.hid (HLA.out c.text)
          have HKN := Lib.hid (And.intro (show cN l k = 58 by rw [hnm]; exact h1) htx)
          clear hle hl hk hc hk1 hnm htx h1
          go_wp2_with fail
          go_at_call 23
          with_reducible refine HLK.out.mono ?_
          rintro e w1 ⟨r, rfl, hlr, rfl⟩
          rcases hlr with ⟨m, hm, hm58, hmt, rfl, hfirst⟩ | ⟨hno, rfl⟩
          · by_cases hmk : m < k
            · have HE := Lib.hid (show LB (cN l) (cT l) l.length (some k) from .twice k m HK1.out.2 HKN.out.1 hmk hm58 (by rw [HKN.out.2]; exact hmt) HJ.out.2)
              have q1 : decide ((m : Int) < (k : Int)) = true := decide_eq_true (by omega)
              have q1n : decide (m < k) = true := decide_eq_true hmk
              have q2 : (m : Int) < (k : Int) := by omega
              clear hm hm58 hmt hfirst hmk
              go_wp2_with fail
              refine bodyPost_ret (v := .tuple #[.complex .f64 c.re c.im, .int .i64 141]) (by simp [results, Try.results21, go_sem]) rfl ⟨_, _, _, rfl, .inr (.inr (.inl ⟨HL.out, HCB.out, k, c, HCC.out, HE.out, rfl, rfl, rfl⟩)), rfl⟩
            · have q1 : decide ((m : Int) < (k : Int)) = false := decide_eq_false (by omega)
              have q1n : decide (m < k) = false := decide_eq_false hmk
              have q2 : (k : Int) ≤ (m : Int) := by omega
              have HN := Lib.hid (show k1 ≤ l.length ∧ Dis (cN l) (cT l) k1 by
                rw [HK1.out.1]
                exact ⟨HK1.out.2, HJ.out.2.put fun j hj h58 => by rw [HKN.out.2]; exact hfirst j (by omega) h58⟩)
              clear hm hm58 hmt hfirst hmk
              go_wp2_with fail
              go_roundw
              case rel => exact ⟨k1, rfl, HN, trivial⟩
              case measure => have := HK1.out; simp [intOf] <;> omega
          · exact absurd HKN.out.2 (hno k HK1.out.2 HKN.out.1)
        · have g2 : (c.name == 58) = false := by rw [beq_eq_false_iff_ne]; exact h1
          have n2 : ¬ c.name = 58 := h1
          have HN := Lib.hid (show k1 ≤ l.length ∧ Dis (cN l) (cT l) k1 by
            rw [hk1]
            exact ⟨hk, HJ.out.2.skip (by rw [hnm]; exact h1)⟩)
          clear hle hl hk hc hk1 hnm htx h1
          go_wp2_with fail
          go_roundw
          case rel => exact ⟨k1, rfl, HN, trivial⟩
          case measure => have := HK1.out; simp [intOf] <;> omega
      case neg =>
      have hd : decide ((k : Int) < (l.length : Int)) = false := decide_eq_false (by omega)
      have hdn : decide (k < l.length) = false := decide_eq_false hk
      have hll : (l.length : Int) ≤ (k : Int) := by omega
      have HDI := Lib.hid (show Dis (cN l) (cT l) l.length by have := HJ.out.2; rwa [show k = l.length by omega] at this)
      clear hle hl hk HJ
      go_upto_region 19 with fail
      clear hd hdn hll
      go_wp2_with fail
      go_loopw [7] (fun kv wz => ∃ k : Nat, kv = .int .i64 (k : Int) ∧ Hid (k ≤ l.length ∧ ∀ j, j < k → (cN l j = 98 ∨ cN l j = 116) → cT l j ≠ ⟨#[]⟩ → ∃ i, i < l.length ∧ cN l i = 58 ∧ cT l i = cT l j) ∧ wz = wr) (fun kv _ => l.length + 1 - (intOf kv).toNat)
      case atStart => exact ⟨0, rfl, Lib.hid ⟨Nat.zero_le _, fun i hi => absurd hi (Nat.not_lt_zero i)⟩, rfl⟩
      case round =>
      obtain ⟨k, rfl, HJ, rfl⟩ := hrel
      have hle := HJ.out.1
      have hl := HL.out
      by_cases hk : k < l.length
      case neg =>
        have hd : decide ((k : Int) < (l.length : Int)) = false := decide_eq_false (by omega)
        have hdn : decide (k < l.length) = false := decide_eq_false hk
        have hll : (l.length : Int) ≤ (k : Int) := by omega
        have HE := Lib.hid (show LB (cN l) (cT l) l.length none from .ok HDI.out fun j hj => HJ.out.2 j (by omega))
        clear hle hl hk
        go_wp2_with fail
        refine bodyPost_ret (v := .tuple #[.complex .f64 0 0, .int .i64 0]) (by simp [results, Try.results21, go_sem]) rfl ⟨_, _, _, rfl, .inr (.inr (.inr ⟨HL.out, HCB.out, HE.out, rfl, rfl, rfl⟩)), rfl⟩
      obtain ⟨c, hc⟩ : ∃ c, l[k]? = some c := ⟨l[k], by simp [hk]⟩
      obtain ⟨g, o, rfl, kN, kT, kP⟩ := row_name HR.out hc
      have hki : (k : Int) < (l.length : Int) := by omega
      have hd : decide ((k : Int) < (l.length : Int)) = true := decide_eq_true hki
      have hdn : decide (k < l.length) = true := decide_eq_true hk
      have hwk : IntKind.i64.wrap ((k : Int) + 1) = ((k + 1 : Nat) : Int) := by rw [IntWalk.i64_in _ (by omega)]; omega
      obtain ⟨k1, hk1⟩ : ∃ k1, k1 = k + 1 := ⟨_, rfl⟩
      rw [← hk1] at hwk
      have HK1 := Lib.hid (And.intro hk1 hk)
      have HCC := Lib.hid hc
      have hnm := cN_at hc
      have htx := cT_at hc
      have next : ((cN l k = 98 ∨ cN l k = 116) → cT l k ≠ ⟨#[]⟩ → ∃ i, i < l.length ∧ cN l i = 58 ∧ cT l i = cT l k) → Hid (k1 ≤ l.length ∧ ∀ j, j < k1 → (cN l j = 98 ∨ cN l j = 116) → cT l j ≠ ⟨#[]⟩ → ∃ i, i < l.length ∧ cN l i = 58 ∧ cT l i = cT l j) := fun h => Lib.hid (by
        rw [HK1.out.1]
        refine ⟨HK1.out.2, fun j hj h1 h2 => ?_⟩
        rcases Nat.lt_or_ge j k with h3 | h3
        · exact HJ.out.2 j h3 h1 h2
        · obtain rfl : j = k := by omega
          exact h h1 h2)
      by_cases hbt : c.name = 98 ∨ c.name = 116
      case neg =>
        have n98 : ¬ c.name = 98 := fun h => hbt (.inl h)
        have n116 : ¬ c.name = 116 := fun h => hbt (.inr h)
        have g98 : (c.name == 98) = false := by rw [beq_eq_false_iff_ne]; exact n98
        have g116 : (c.name == 116) = false := by rw [beq_eq_false_iff_ne]; exact n116
        have HN := next fun h => by rw [hnm] at h; exact absurd h hbt
        clear next hle hl hk hc hk1 hnm htx hbt
        go_wp2_with fail
        go_roundw
        case rel => exact ⟨k1, rfl, HN, trivial⟩
        case measure => have := HK1.out; simp [intOf] <;> omega
      have HBT := Lib.hid (show cN l k = 98 ∨ cN l k = 116 by rw [hnm]; exact hbt)
      rcases hbt with hbt | hbt
      · have g98 : (c.name == 98) = true := by rw [hbt]; rfl
        clear hbt
        by_cases he : c.text = ⟨#[]⟩
        · have ge : c.text.toList.isEmpty = true := by rw [he, ByteArray.toList_eq]; rfl
          have HN := next fun _ h => absurd (htx.trans he) h
          clear next hle hl hk hc hk1 hnm htx he
          go_wp2_with fail
          go_roundw
          case rel => exact ⟨k1, rfl, HN, trivial⟩
          case measure => have := HK1.out; simp [intOf] <;> omega
        · have ge := full_text he
          have HLK := Lib.hid (HLA.out c.text)
          have HTX := Lib.hid (And.intro htx he)
          have HNX := Lib.hid next
          clear next hle hl hk hc hk1 hnm htx he
          go_wp2_with fail
          go_at_call 23
          with_reducible refine HLK.out.mono ?_
          rintro e w1 ⟨r, rfl, hlr, rfl⟩
          rcases hlr with ⟨m, hm, hm58, hmt, rfl, hfirst⟩ | ⟨hno, rfl⟩
          · have q1 : decide ((m : Int) < 0) = false := decide_eq_false (by omega)
            have q2 : ¬ (m : Int) < 0 := by omega
            have q3 : (0 : Int) ≤ (m : Int) := by omega
            have HN := HNX.out fun _ _ => ⟨m, hm, hm58, by rw [HTX.out.1]; exact hmt⟩
            clear hm hm58 hmt hfirst
            go_wp2_with fail
            go_roundw
            case rel => exact ⟨k1, rfl, HN, trivial⟩
            case measure => have := HK1.out; simp [intOf] <;> omega
          · have HE := Lib.hid (show LB (cN l) (cT l) l.length (some k) from .gone k HDI.out HK1.out.2 HBT.out (by rw [HTX.out.1]; exact HTX.out.2) (fun j hj h58 => by rw [HTX.out.1]; exact hno j hj h58) fun j hj h1 h2 => HJ.out.2 j hj h1 h2)
            clear hno
            go_wp2_with fail
            refine bodyPost_ret (v := .tuple #[.complex .f64 c.re c.im, .int .i64 141]) (by simp [results, Try.results21, go_sem]) rfl ⟨_, _, _, rfl, .inr (.inr (.inl ⟨HL.out, HCB.out, k, c, HCC.out, HE.out, rfl, rfl, rfl⟩)), rfl⟩
      · have g98 : (c.name == 98) = false := by rw [hbt]; rfl
        have n98 : ¬ c.name = 98 := by rw [hbt]; omega
        have g116 : (c.name == 116) = true := by rw [hbt]; rfl
        clear hbt
        by_cases he : c.text = ⟨#[]⟩
        · have ge : c.text.toList.isEmpty = true := by rw [he, ByteArray.toList_eq]; rfl
          have HN := next fun _ h => absurd (htx.trans he) h
          clear next hle hl hk hc hk1 hnm htx he
          go_wp2_with fail
          go_roundw
          case rel => exact ⟨k1, rfl, HN, trivial⟩
          case measure => have := HK1.out; simp [intOf] <;> omega
        · have ge := full_text he
          have HLK := Lib.hid (HLA.out c.text)
          have HTX := Lib.hid (And.intro htx he)
          have HNX := Lib.hid next
          clear next hle hl hk hc hk1 hnm htx he
          go_wp2_with fail
          go_at_call 23
          with_reducible refine HLK.out.mono ?_
          rintro e w1 ⟨r, rfl, hlr, rfl⟩
          rcases hlr with ⟨m, hm, hm58, hmt, rfl, hfirst⟩ | ⟨hno, rfl⟩
          · have q1 : decide ((m : Int) < 0) = false := decide_eq_false (by omega)
            have q2 : ¬ (m : Int) < 0 := by omega
            have q3 : (0 : Int) ≤ (m : Int) := by omega
            have HN := HNX.out fun _ _ => ⟨m, hm, hm58, by rw [HTX.out.1]; exact hmt⟩
            clear hm hm58 hmt hfirst
            go_wp2_with fail
            go_roundw
            case rel => exact ⟨k1, rfl, HN, trivial⟩
            case measure => have := HK1.out; simp [intOf] <;> omega
          · have HE := Lib.hid (show LB (cN l) (cT l) l.length (some k) from .gone k HDI.out HK1.out.2 HBT.out (by rw [HTX.out.1]; exact HTX.out.2) (fun j hj h58 => by rw [HTX.out.1]; exact hno j hj h58) fun j hj h1 h2 => HJ.out.2 j hj h1 h2)
            clear hno
            go_wp2_with fail
            refine bodyPost_ret (v := .tuple #[.complex .f64 c.re c.im, .int .i64 141]) (by simp [results, Try.results21, go_sem]) rfl ⟨_, _, _, rfl, .inr (.inr (.inl ⟨HL.out, HCB.out, k, c, HCC.out, HE.out, rfl, rfl, rfl⟩)), rfl⟩
end Go.Proofs.Ythlkmlphbepnpaa

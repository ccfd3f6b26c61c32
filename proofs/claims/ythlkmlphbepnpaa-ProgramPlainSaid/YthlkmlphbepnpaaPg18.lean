/-
  ProgramPlain, walked: without braces and labels a program is its commands. No condition.
-/
import Derived.Test.YthlkmlphbepnpaaPg15
import Derived.Test.YthlkmlphbepnpaaPgt
namespace Go.Proofs.Ythlkmlphbepnpaa
open Go.RowKit Go.Deep

def letters : List Nat := [100, 68, 103, 71, 104, 72, 108, 110, 78, 112, 80, 120, 98, 116]
def letterOf (b : UInt8) : Nat := letters.getD (b.toNat % 14) 0
def plC (b : UInt8) (i : Nat) : CM := ⟨oneF, floatOfInt .f64 ((i : Int) + 1), (letterOf b : Int), ⟨#[]⟩, ⟨#[]⟩⟩
/-- The commands of the first m names. -/
def plL (l : List UInt8) (m : Nat) : List CM := (List.range m).map fun i => plC (l.getD i 0) i
theorem plL_succ (l : List UInt8) (m : Nat) : plL l (m + 1) = plL l m ++ [plC (l.getD m 0) m] := by simp [plL, List.range_succ]
theorem plL_len (l : List UInt8) (m : Nat) : (plL l m).length = m := by simp [plL]
theorem letter_mem (b : UInt8) : letterOf b ∈ letters := by
  unfold letterOf
  have h : b.toNat % 14 < 14 := Nat.mod_lt _ (by omega)
  rw [List.getD_eq_getElem?_getD, List.getElem?_eq_getElem (by show b.toNat % 14 < 14; exact h), Option.getD_some]
  exact List.getElem_mem _
theorem letter_ok (b : UInt8) : letterOf b ≠ 123 ∧ letterOf b ≠ 125 ∧ letterOf b ≠ 58 := by
  have h := letter_mem b
  simp only [letters, List.mem_cons, List.not_mem_nil, or_false] at h
  omega
def u8V (l : List UInt8) : List Value := l.map fun b => .int .u8 (b.toNat : Int)
structure PlJ (l : List UInt8) (w wr : World) (m : Nat) (v : Value) : Prop where
  le : m ≤ l.length
  most : m ≤ 180
  own : OwnC wr w.heap.size v (plL l m)
  bel : Below w.heap.size w wr
theorem plL_get {l : List UInt8} {m i : Nat} (h : i < m) : (plL l m)[i]? = some (plC (l.getD i 0) i) := by simp [plL, h]
theorem plL_name {l : List UInt8} {m i : Nat} (h : i < m) : cN (plL l m) i = (letterOf (l.getD i 0) : Int) := by rw [cN_at (plL_get h)]; rfl
theorem plL_ok {l : List UInt8} {m i : Nat} (h : i < m) : cN (plL l m) i ≠ 123 ∧ cN (plL l m) i ≠ 125 ∧ cN (plL l m) i ≠ 58 := by
  have := letter_ok (l.getD i 0)
  rw [plL_name h]
  omega
theorem plL_stk (l : List UInt8) (m : Nat) : ∀ k, k ≤ m → stk (cN (plL l m)) k = some []
  | 0, _ => rfl
  | k + 1, h => stk_other (plL_stk l m k (by omega)) (plL_ok (by omega)).1 (plL_ok (by omega)).2.1
theorem plL_text {l : List UInt8} {m i : Nat} : cT (plL l m) i = ⟨#[]⟩ := by
  unfold cT
  cases h : (plL l m)[i]? with
  | none => rfl
  | some c =>
    obtain ⟨h1, h2⟩ := List.getElem?_eq_some_iff.1 h
    have hi : i < m := by rwa [plL_len] at h1
    rw [plL_get hi] at h
    injection h with h
    subst h
    rfl
theorem plL_deep (l : List UInt8) (m : Nat) : ∀ k, k ≤ m → dpF (cN (plL l m)) k = (0, 0)
  | 0, _ => rfl
  | k + 1, h => by rw [dpF_other (plL_ok (by omega)).1 (plL_ok (by omega)).2.1]; exact plL_deep l m k (by omega)
/-- The same in braces. -/
def inL (l : List UInt8) (m : Nat) : List CM := [nameC 123] ++ plL l m ++ [nameC 125]
theorem inL_len (l : List UInt8) (m : Nat) : (inL l m).length = m + 2 := by simp [inL, plL_len]
theorem inL_get {l : List UInt8} {m i : Nat} (h : i < m) : (inL l m)[i + 1]? = some (plC (l.getD i 0) i) := by
  unfold inL
  rw [List.getElem?_append_left (by simp [plL_len, h]), List.getElem?_append_right (by simp)]
  simpa using plL_get h
theorem inL_last (l : List UInt8) (m : Nat) : (inL l m)[m + 1]? = some (nameC 125) := by
  unfold inL
  rw [List.getElem?_append_right (by simp [plL_len])]
  simp [plL_len]
theorem inL_name {l : List UInt8} {m i : Nat} (h : i < m) : cN (inL l m) (i + 1) = cN (plL l m) i := by rw [cN_at (inL_get h), cN_at (plL_get h)]
theorem inL_stk (l : List UInt8) (m : Nat) : ∀ k, k ≤ m → stk (cN (inL l m)) (k + 1) = some [0]
  | 0, _ => stk_open (s := []) rfl rfl
  | k + 1, h => stk_other (inL_stk l m k (by omega)) (by rw [inL_name (by omega)]; exact (plL_ok (by omega)).1) (by rw [inL_name (by omega)]; exact (plL_ok (by omega)).2.1)
theorem inL_shut (l : List UInt8) (m : Nat) : Closes (cN (inL l m)) 0 (m + 1) := ⟨by rw [cN_at (inL_last l m)]; rfl, [], inL_stk l m m (Nat.le_refl _)⟩
theorem inL_all (l : List UInt8) (m : Nat) : stk (cN (inL l m)) (m + 2) = some [] := stk_shut (inL_stk l m m (Nat.le_refl _)) (by rw [cN_at (inL_last l m)]; rfl)
theorem inL_deep (l : List UInt8) (m : Nat) : ∀ k, k ≤ m → dpF (cN (inL l m)) (k + 1) = (1, 1)
  | 0, _ => by rw [dpF_open (by rfl)]; rfl
  | k + 1, h => by rw [dpF_other (by rw [inL_name (by omega)]; exact (plL_ok (by omega)).1) (by rw [inL_name (by omega)]; exact (plL_ok (by omega)).2.1)]; exact inL_deep l m k (by omega)
theorem inL_deep2 (l : List UInt8) (m : Nat) : (dpF (cN (inL l m)) (m + 2)).2 = 1 := by rw [dpF_shut (by rw [cN_at (inL_last l m)]; rfl), inL_deep l m m (Nat.le_refl _)]
theorem inL_text {l : List UInt8} {m i : Nat} (h : i < m + 2) : cT (inL l m) i = ⟨#[]⟩ := by
  rcases Nat.eq_zero_or_pos i with rfl | h0
  · rfl
  · obtain ⟨k, rfl⟩ : ∃ k, i = k + 1 := ⟨i - 1, by omega⟩
    by_cases hk : k < m
    · rw [cT_at (inL_get hk)]
      rfl
    · obtain rfl : k = m := by omega
      rw [cT_at (inL_last l k)]
      rfl
theorem letter_get (b : UInt8) (h : b.toNat % 14 < (⟨#[100, 68, 103, 71, 104, 72, 108, 110, 78, 112, 80, 120, 98, 116]⟩ : ByteArray).size) : ((⟨#[100, 68, 103, 71, 104, 72, 108, 110, 78, 112, 80, 120, 98, 116]⟩ : ByteArray)[b.toNat % 14]'h).toNat = letterOf b := by
  unfold letterOf
  have key : ∀ k : Fin 14, ((⟨#[100, 68, 103, 71, 104, 72, 108, 110, 78, 112, 80, 120, 98, 116]⟩ : ByteArray)[k.val]'(by have := k.isLt; exact this)).toNat = letters.getD k.val 0 := by decide
  exact key ⟨b.toNat % 14, Nat.mod_lt _ (by omega)⟩
theorem small_pl {cs : List CM} (h : ∀ i, cT cs i = ⟨#[]⟩) : ∀ c ∈ cs, c.text.size ≤ 1048576 := by
  intro c hc
  obtain ⟨i, hi, rfl⟩ := List.getElem_of_mem hc
  have h1 := cT_at (List.getElem?_eq_getElem hi)
  rw [h i] at h1
  rw [← h1]
  decide
theorem inL_text' (l : List UInt8) (m i : Nat) : cT (inL l m) i = ⟨#[]⟩ := by
  by_cases h : i < m + 2
  · exact inL_text h
  · unfold cT
    rw [List.getElem?_eq_none (by rw [inL_len]; omega)]
    rfl
/-- What Compile answers to a row of names, and to the same in braces. -/
def Comp2 (cs : List CM) (n : Nat) (w : World) (e : Ending) (w' : World) : Prop := Below w.heap.size w w' ∧ ∃ J g, Jumps (cN cs) (cT cs) n J ∧ w.heap.size ≤ g ∧ w'.rangeAt g 0 (imV (ims cs J n)) ∧ e = .returned (.tuple #[.slice (some ⟨g, 0, none⟩) n n, .complex .f64 0 0, .int .i64 0])
theorem comp_plain {l : List UInt8} {m c : Nat} {A : Option Addr} {w : World} (hm : m ≤ 180) (hr : RawAt w A (cmV (plL l m))) : Calls Try.prog 10 #[.slice A m c] w (Comp2 (plL l m) m w) := by
  have h := (compile_is (cl := c) hr (small_pl fun i => plL_text)).mono fun e w' h => comp_ok (by rw [plL_len]; omega) (by rw [plL_len]; exact plL_stk l m m (Nat.le_refl _)) (fun i hi => (plL_ok (by rwa [plL_len] at hi)).2.2) (fun i _ => plL_text) h
  rw [plL_len] at h
  exact h
theorem comp_in {l : List UInt8} {m c : Nat} {A : Option Addr} {w : World} (hm : m ≤ 180) (hr : RawAt w A (cmV (inL l m))) : Calls Try.prog 10 #[.slice A (m + 2) c] w (Comp2 (inL l m) (m + 2) w) := by
  have h := (compile_is (cl := c) hr (small_pl (inL_text' l m))).mono fun e w' h => comp_ok (by rw [inL_len]; omega) (by rw [inL_len]; exact inL_all l m) (fun i hi => by
    rw [inL_len] at hi
    rcases Nat.eq_zero_or_pos i with rfl | h0
    · show (123 : Int) ≠ 58
      omega
    · obtain ⟨k, rfl⟩ : ∃ k, i = k + 1 := ⟨i - 1, by omega⟩
      by_cases hk : k < m
      · rw [inL_name hk]
        exact (plL_ok hk).2.2
      · obtain rfl : k = m := by omega
        rw [cN_at (inL_last l k)]
        show (125 : Int) ≠ 58
        omega) (fun i _ => inL_text' l m i) h
  rw [inL_len] at h
  exact h
set_option maxRecDepth 100000 in
set_option maxHeartbeats 8000000 in
theorem plain_is {l : List UInt8} {cl : Nat} {A : Option Addr} {w : World} (hr : RawAt w A (u8V l)) :
    Calls Try.prog 7 #[.slice A l.length cl] w (Alv w) := by
  have HR := Lib.hid (show ∀ W, Below w.heap.size w W → RawAt W A (u8V l) from fun W hW => hr.below hW)
  have HS := Lib.hid (show PlJ l w w 0 (.slice none 0 0) from ⟨Nat.zero_le _, Nat.zero_le _, OwnC.nil w _, Below.refl _ _⟩)
  have HA := Lib.hid alive_is
  clear hr
  unfold Alv at *
  go_enter Try.func7, Try.ntmps7
  go_wp2_with fail
  go_loopw [3, 4, 5] (fun v iv _ wz => ∃ (m : Nat) (V : Value), V = v ∧ iv = .int .i64 (m : Int) ∧ Hid (PlJ l w wz m V)) (fun _ iv _ _ => 181 - (intOf iv).toNat)
  case atStart => exact ⟨0, _, rfl, rfl, HS⟩
  case round =>
    clear HS
    obtain ⟨m, v, hv, rfl, HJ⟩ := hrel
    subst hv
    have hle := HJ.out.le
    have hmo := HJ.out.most
    by_cases hm : m < l.length ∧ m < 180
    case neg =>
      by_cases hml : m < l.length
      · have hd : decide ((m : Int) < (l.length : Int)) = true := decide_eq_true (by omega)
        have hdn : decide (m < l.length) = true := decide_eq_true hml
        have d1 : decide ((m : Int) < 180) = false := decide_eq_false (by omega)
        have d1n : decide (m < 180) = false := decide_eq_false (by omega)
        have hmm : (180 : Int) ≤ (m : Int) := by omega
        clear hm hml hle hmo
        go_upto_region 7 with fail
        obtain ⟨A2, c2, hv, hraw⟩ := HJ.out.own.raw
        rw [plL_len] at hv
        subst hv
        have HM := Lib.hid (show m ≤ 180 ∧ m ≤ l.length from ⟨HJ.out.most, HJ.out.le⟩)
        have HR1 := Lib.hid hraw
        have HC1 := Lib.hid (comp_plain (c := c2) HM.out.1 hraw)
        have HB0 := Lib.hid HJ.out.bel
        clear hraw
        go_wp2_with fail
        go_at_call 10
        with_reducible refine HC1.out.mono ?_
        rintro e w2 ⟨hb2, J, g, hj, _, hpr, rfl⟩
        have HB2 := Lib.hid (HB0.out.trans (hb2.mono HB0.out.size))
        have HJ1 := Lib.hid hj
        have HP := Lib.hid (show PrM (plL l m) J g m A2 w2 from ⟨HR1.out.below hb2, hpr⟩)
        clear hb2 hj hpr
        go_upto_region 8 with fail
        refine wp_region_lit ?_
        refine wpList_build_n rfl (.const (.int .u8 123)) rfl rfl ?_
        refine wpList_lit_one rfl (.tmp 49) rfl (c := nameC 123) rfl ?_
        intro W3 g3 hg3 hown3 hb3
        have HO3 := Lib.hid hown3
        have HB3 := Lib.hid hb3
        have HR3 := Lib.hid ((HP.out.stays hb3).row)
        clear hg3 hown3 hb3
        go_wp2_with (refine wpList_append_cmd 52 (plL l m) HO3.out HR3.out (plL_len l m).symm rfl rfl (by have := HM.out; rw [plL_len]; simp; omega) HB3.out.size ?_)
        intro v4 W4 hown4 ht4 hk4
        have HO4 := Lib.hid hown4
        have HB4 := Lib.hid (show Below w2.heap.size w2 W4 from HB3.out.trans (ht4.below HB3.out.size fun k hk => (World.ownsRow.lt HO3.out k hk).1))
        clear hown4 ht4 hk4
        go_wp2_with (first | (refine wpList_build_n rfl (.const (.int .u8 125)) rfl rfl ?_) | (refine wpList_lit_one rfl (.tmp 54) rfl (c := nameC 125) rfl ?_))
        intro W5 hown5 hb5
        have HO5 := Lib.hid (HO4.out.below hb5)
        have HB5 := Lib.hid (HB4.out.trans (hb5.mono HB4.out.size))
        have HR5 := Lib.hid (show RawAt W5 (some ⟨W4.heap.size, 0, none⟩) (cmV [nameC 125]) by
          obtain ⟨A, c, e, h⟩ := hown5.raw
          injection e with e
          subst e
          exact h)
        clear hown5 hb5
        go_wp2_with (refine wpList_append_cmd 56 [nameC 125] HO5.out HR5.out rfl rfl rfl (by have := HM.out; simp [plL_len]; omega) HB5.out.size ?_)
        intro v6 W6 hown6 ht6 hk6
        have HB6 := Lib.hid (show Below w2.heap.size w2 W6 from HB5.out.trans (ht6.below HB5.out.size fun k hk => (World.ownsRow.lt HO5.out k hk).1))
        obtain ⟨A6, c6, hv6, hraw6⟩ := OwnC.raw (cs := inL l m) hown6
        rw [inL_len] at hv6
        subst hv6
        have HR6 := Lib.hid hraw6
        have HC6 := Lib.hid (comp_in (c := c6) HM.out.1 hraw6)
        clear hown6 ht6 hk6 hraw6
        obtain ⟨n2, hn2⟩ : ∃ n2, n2 = m + 2 := ⟨_, rfl⟩
        rw [← hn2] at HC6 ⊢
        have HN2 := Lib.hid hn2
        clear hn2
        go_wp2_with fail
        go_at_call 10
        with_reducible refine HC6.out.mono ?_
        rintro e w7 ⟨hb7, J2, g2, hj2, _, hpr2, rfl⟩
        have HB7 := Lib.hid (HB6.out.trans (hb7.mono HB6.out.size))
        have HJ2 := Lib.hid hj2
        have HP7 := Lib.hid (HP.out.stays HB7.out)
        have HQ7 := Lib.hid (show PrM (inL l m) J2 g2 n2 A6 w7 from ⟨HR6.out.below hb7, hpr2⟩)
        have hq0 : w7.cell? ⟨g2, 42, none⟩ = some (.int .i64 ((m : Int) + 1)) := by
          have h := HQ7.out.jump (i := 0) (by have := HN2.out; omega)
          rw [HJ2.out.brace 0 (m + 1) (by have := HN2.out; omega) (inL_shut l m)] at h
          simpa using h
        have hm180 := HM.out.1
        have hwm1 : IntKind.i64.wrap ((m : Int) + 1) = (m : Int) + 1 := IntWalk.i64_in _ (by omega)
        have hwm2 : IntKind.i64.wrap ((m : Int) + 2) = (n2 : Int) := by have := HN2.out; rw [IntWalk.i64_in _ (by omega)]; omega
        have b1 : ((m : Int) != (m : Int)) = false := by simp
        have b2 : ((n2 : Int) != (n2 : Int)) = false := by simp
        have b3 : ((m : Int) + 1 != (m : Int) + 1) = false := by simp
        have hn0 : (0 : Int) < (n2 : Int) := by have := HN2.out; omega
        have hn0n : 0 < n2 := by have := HN2.out; omega
        clear hb7 hj2 hpr2
        go_wp2_with fail
        clear hq0 b1 b2 b3 hwm1
        go_loopw [13, 14, 15, 16] (fun iv _ _ _ wz => ∃ i : Nat, iv = .int .i64 (i : Int) ∧ Hid (i ≤ m ∧ Below w7.heap.size w7 wz)) (fun iv _ _ _ _ => m + 1 - (intOf iv).toNat)
        case atStart => exact ⟨0, rfl, Lib.hid ⟨Nat.zero_le _, Below.refl _ _⟩⟩
        case round =>
          obtain ⟨i, rfl, HI⟩ := hrel
          rename_i wr
          have hle := HI.out.1
          have hm180 := HM.out.1
          by_cases hi : i < m
          case neg =>
            have hd : decide ((i : Int) < (m : Int)) = false := decide_eq_false (by omega)
            have hdn : decide (i < m) = false := decide_eq_false hi
            have hll : (m : Int) ≤ (i : Int) := by omega
            have HB8 := Lib.hid (HB2.out.trans ((HB7.out.trans (HI.out.2.mono HB7.out.size)).mono HB2.out.size))
            have HPR := Lib.hid (HP7.out.stays HI.out.2)
            have HQR := Lib.hid (HQ7.out.stays HI.out.2)
            clear hle hi hm180
            go_wp2_with fail
            go_at_call 9
            with_reducible refine (HA.out _).mono ?_
            rintro e w9 ⟨rfl, hb9⟩
            have HB9 := Lib.hid (HB8.out.trans (hb9.mono HB8.out.size))
            have HPR9 := Lib.hid (HPR.out.stays hb9)
            have HQR9 := Lib.hid (HQR.out.stays hb9)
            have HD1 := Lib.hid (by have h := deep_is (cl := c2) HPR9.out.row (by rw [plL_len]; have := HM.out.1; omega); rw [plL_len, plL_deep l m m (Nat.le_refl _)] at h; exact h : Calls Try.prog 16 #[.slice A2 m c2] w9 fun e w' => e = .returned (.int .i64 0) ∧ Below w9.heap.size w9 w')
            clear hb9
            go_wp2_with fail
            go_at_call 16
            with_reducible refine HD1.out.mono ?_
            rintro e w10 ⟨rfl, hb10⟩
            have HB10 := Lib.hid (HB9.out.trans (hb10.mono HB9.out.size))
            have HQR10 := Lib.hid (HQR9.out.stays hb10)
            have HD2 := Lib.hid (by have h := deep_is (cl := c6) HQR10.out.row (by rw [inL_len]; have := HM.out.1; omega); rw [inL_len, inL_deep2, ← HN2.out] at h; exact h : Calls Try.prog 16 #[.slice A6 n2 c6] w10 fun e w' => e = .returned (.int .i64 1) ∧ Below w10.heap.size w10 w')
            clear hb10
            go_wp2_with fail
            go_at_call 16
            with_reducible refine HD2.out.mono ?_
            rintro e w11 ⟨rfl, hb11⟩
            have HB11 := Lib.hid (HB10.out.trans (hb11.mono HB10.out.size))
            clear hb11
            go_wp2_with fail
            go_ret
            exact ⟨rfl, HB11.out⟩
          have hil : (i : Int) < (m : Int) := by omega
          have hd : decide ((i : Int) < (m : Int)) = true := decide_eq_true hil
          have hdn : decide (i < m) = true := decide_eq_true hi
          have hwi : IntKind.i64.wrap ((i : Int) + 1) = ((i + 1 : Nat) : Int) := by rw [IntWalk.i64_in _ (by omega)]; omega
          obtain ⟨i1, hi1⟩ : ∃ i1, i1 = i + 1 := ⟨_, rfl⟩
          rw [← hi1] at hwi
          have HI1 := Lib.hid (And.intro hi1 hi)
          have HPI := Lib.hid (HP7.out.stays HI.out.2)
          have HQI := Lib.hid (HQ7.out.stays HI.out.2)
          obtain ⟨ga, o2, rfl, kN0, _⟩ := HPI.out.name (plL_get (l := l) hi)
          have kP : wr.cell? ⟨ga, o2 + i * 42, none⟩ = some (.complex .f64 4607182418800017408 (floatOfInt .f64 ((i : Int) + 1))) := by
            obtain ⟨ga', o', he, h⟩ := raw_elem CM.len (by omega) HPI.out.row (plL_get (l := l) hi)
            injection he with he
            injection he with he he'
            subst he
            subst he'
            exact h 0 _ rfl
          have kJ := HPI.out.jump hi
          have kN1 : wr.cell? ⟨g, i * 43 + 1, none⟩ = some (.int .u8 (letterOf (l.getD i 0) : Int)) := ins_cmd HPI.out.prog hi (plL_get (l := l) hi) 1 _ rfl
          have hi2 : i1 < n2 := by have := HN2.out; omega
          have kJ2 := HQI.out.jump hi2
          have kP2 : wr.cell? ⟨g2, i1 * 43, none⟩ = some (.complex .f64 4607182418800017408 (floatOfInt .f64 ((i : Int) + 1))) := by
            have h := ins_cmd HQI.out.prog hi2 (by rw [hi1]; exact inL_get (l := l) hi) 0 _ rfl
            exact h
          have kN : wr.cell? ⟨ga, o2 + i * 42 + 1, none⟩ = some (.int .u8 (letterOf (l.getD i 0) : Int)) := kN0
          clear kN0
          have hcs : ∀ W : World, (binOp .neq 28 (.complex .f64 4607182418800017408 (floatOfInt .f64 ((i : Int) + 1))) (.complex .f64 4607182418800017408 (floatOfInt .f64 ((i : Int) + 1)))).run Try.prog W = .ok (.bool false) W := fun W => by
            have h := cplx_same (i + 1) (by omega) W
            push_cast at h
            exact h
          have hnm := plL_name (l := l) hi
          have htx : cT (plL l m) i = ⟨#[]⟩ := plL_text
          have hnm2 : cN (inL l m) i1 = (letterOf (l.getD i 0) : Int) := by rw [hi1, inL_name hi, hnm]
          have htx2 := inL_text' l m i1
          have hok0 := letter_ok (l.getD i 0)
          obtain ⟨L, hL⟩ : ∃ L : Int, L = ((letterOf (l.getD i 0) : Nat) : Int) := ⟨_, rfl⟩
          have hok : L ≠ 123 ∧ L ≠ 125 ∧ L ≠ 58 := by rw [hL]; omega
          rw [← hL] at kN kN1 hnm hnm2
          clear hok0
          have hi2i : (i1 : Int) < (n2 : Int) := by omega
          have b1 : ((m : Int) != (m : Int)) = false := by simp
          have b2 : ((n2 : Int) != (n2 : Int)) = false := by simp
          by_cases hbt : L = 98 ∨ L = 116
          case neg =>
            have g98 : (L == 98) = false := by rw [beq_eq_false_iff_ne]; omega
            have g116 : (L == 116) = false := by rw [beq_eq_false_iff_ne]; omega
            have n98 : ¬ L = 98 := fun h => hbt (.inl h)
            have n116 : ¬ L = 116 := fun h => hbt (.inr h)
            rw [HJ1.out.other i (by rw [hnm]; omega) (by rw [hnm]; omega) (by rw [hnm]; omega)] at kJ
            rw [HJ2.out.other i1 (by rw [hnm2]; omega) (by rw [hnm2]; omega) (by rw [hnm2]; omega)] at kJ2
            clear hle hm180 hi hi1 hnm htx hnm2 htx2 hok hL hbt
            go_wp2_with fail
            go_quiet (fail)
            go_wp2_with fail
            go_roundw
            case rel => exact ⟨i1, rfl, Lib.hid ⟨by have := HI1.out; omega, ⟨HI.out.2.os, HI.out.2.tape, HI.out.2.output, HI.out.2.size, HI.out.2.block⟩⟩⟩
            case measure => have := HI1.out; simp [intOf]; omega
          case pos =>
          rw [HJ1.out.top i hi (by rw [hnm]; omega) htx] at kJ
          rw [HJ2.out.top i1 hi2 (by rw [hnm2]; omega) htx2] at kJ2
          rcases hbt with hbt | hbt
          · have g98 : (L == 98) = true := by rw [hbt]; rfl
            clear hle hm180 hi hi1 hnm htx hnm2 htx2 hok hL hbt
            go_wp2_with fail
            go_quiet (fail)
            go_wp2_with fail
            go_roundw
            case rel => exact ⟨i1, rfl, Lib.hid ⟨by have := HI1.out; omega, ⟨HI.out.2.os, HI.out.2.tape, HI.out.2.output, HI.out.2.size, HI.out.2.block⟩⟩⟩
            case measure => have := HI1.out; simp [intOf]; omega
          · have g98 : (L == 98) = false := by rw [hbt]; rfl
            have g116 : (L == 116) = true := by rw [hbt]; rfl
            have n98 : ¬ L = 98 := by rw [hbt]; omega
            clear hle hm180 hi hi1 hnm htx hnm2 htx2 hok hL hbt
            go_wp2_with fail
            go_quiet (fail)
            go_wp2_with fail
            go_roundw
            case rel => exact ⟨i1, rfl, Lib.hid ⟨by have := HI1.out; omega, ⟨HI.out.2.os, HI.out.2.tape, HI.out.2.output, HI.out.2.size, HI.out.2.block⟩⟩⟩
            case measure => have := HI1.out; simp [intOf]; omega
      have hd : decide ((m : Int) < (l.length : Int)) = false := decide_eq_false (by omega)
      have hdn : decide (m < l.length) = false := decide_eq_false hml
      have hmm : (l.length : Int) ≤ (m : Int) := by omega
      clear hm hml hle hmo
      go_upto_region 7 with fail
      obtain ⟨A2, c2, hv, hraw⟩ := HJ.out.own.raw
      rw [plL_len] at hv
      subst hv
      have HM := Lib.hid (show m ≤ 180 ∧ m ≤ l.length from ⟨HJ.out.most, HJ.out.le⟩)
      have HR1 := Lib.hid hraw
      have HC1 := Lib.hid (comp_plain (c := c2) HM.out.1 hraw)
      have HB0 := Lib.hid HJ.out.bel
      clear hraw
      go_wp2_with fail
      go_at_call 10
      with_reducible refine HC1.out.mono ?_
      rintro e w2 ⟨hb2, J, g, hj, _, hpr, rfl⟩
      have HB2 := Lib.hid (HB0.out.trans (hb2.mono HB0.out.size))
      have HJ1 := Lib.hid hj
      have HP := Lib.hid (show PrM (plL l m) J g m A2 w2 from ⟨HR1.out.below hb2, hpr⟩)
      clear hb2 hj hpr
      go_upto_region 8 with fail
      refine wp_region_lit ?_
      refine wpList_build_n rfl (.const (.int .u8 123)) rfl rfl ?_
      refine wpList_lit_one rfl (.tmp 49) rfl (c := nameC 123) rfl ?_
      intro W3 g3 hg3 hown3 hb3
      have HO3 := Lib.hid hown3
      have HB3 := Lib.hid hb3
      have HR3 := Lib.hid ((HP.out.stays hb3).row)
      clear hg3 hown3 hb3
      go_wp2_with (refine wpList_append_cmd 52 (plL l m) HO3.out HR3.out (plL_len l m).symm rfl rfl (by have := HM.out; rw [plL_len]; simp; omega) HB3.out.size ?_)
      intro v4 W4 hown4 ht4 hk4
      have HO4 := Lib.hid hown4
      have HB4 := Lib.hid (show Below w2.heap.size w2 W4 from HB3.out.trans (ht4.below HB3.out.size fun k hk => (World.ownsRow.lt HO3.out k hk).1))
      clear hown4 ht4 hk4
      go_wp2_with (first | (refine wpList_build_n rfl (.const (.int .u8 125)) rfl rfl ?_) | (refine wpList_lit_one rfl (.tmp 54) rfl (c := nameC 125) rfl ?_))
      intro W5 hown5 hb5
      have HO5 := Lib.hid (HO4.out.below hb5)
      have HB5 := Lib.hid (HB4.out.trans (hb5.mono HB4.out.size))
      have HR5 := Lib.hid (show RawAt W5 (some ⟨W4.heap.size, 0, none⟩) (cmV [nameC 125]) by
        obtain ⟨A, c, e, h⟩ := hown5.raw
        injection e with e
        subst e
        exact h)
      clear hown5 hb5
      go_wp2_with (refine wpList_append_cmd 56 [nameC 125] HO5.out HR5.out rfl rfl rfl (by have := HM.out; simp [plL_len]; omega) HB5.out.size ?_)
      intro v6 W6 hown6 ht6 hk6
      have HB6 := Lib.hid (show Below w2.heap.size w2 W6 from HB5.out.trans (ht6.below HB5.out.size fun k hk => (World.ownsRow.lt HO5.out k hk).1))
      obtain ⟨A6, c6, hv6, hraw6⟩ := OwnC.raw (cs := inL l m) hown6
      rw [inL_len] at hv6
      subst hv6
      have HR6 := Lib.hid hraw6
      have HC6 := Lib.hid (comp_in (c := c6) HM.out.1 hraw6)
      clear hown6 ht6 hk6 hraw6
      obtain ⟨n2, hn2⟩ : ∃ n2, n2 = m + 2 := ⟨_, rfl⟩
      rw [← hn2] at HC6 ⊢
      have HN2 := Lib.hid hn2
      clear hn2
      go_wp2_with fail
      go_at_call 10
      with_reducible refine HC6.out.mono ?_
      rintro e w7 ⟨hb7, J2, g2, hj2, _, hpr2, rfl⟩
      have HB7 := Lib.hid (HB6.out.trans (hb7.mono HB6.out.size))
      have HJ2 := Lib.hid hj2
      have HP7 := Lib.hid (HP.out.stays HB7.out)
      have HQ7 := Lib.hid (show PrM (inL l m) J2 g2 n2 A6 w7 from ⟨HR6.out.below hb7, hpr2⟩)
      have hq0 : w7.cell? ⟨g2, 42, none⟩ = some (.int .i64 ((m : Int) + 1)) := by
        have h := HQ7.out.jump (i := 0) (by have := HN2.out; omega)
        rw [HJ2.out.brace 0 (m + 1) (by have := HN2.out; omega) (inL_shut l m)] at h
        simpa using h
      have hm180 := HM.out.1
      have hwm1 : IntKind.i64.wrap ((m : Int) + 1) = (m : Int) + 1 := IntWalk.i64_in _ (by omega)
      have hwm2 : IntKind.i64.wrap ((m : Int) + 2) = (n2 : Int) := by have := HN2.out; rw [IntWalk.i64_in _ (by omega)]; omega
      have b1 : ((m : Int) != (m : Int)) = false := by simp
      have b2 : ((n2 : Int) != (n2 : Int)) = false := by simp
      have b3 : ((m : Int) + 1 != (m : Int) + 1) = false := by simp
      have hn0 : (0 : Int) < (n2 : Int) := by have := HN2.out; omega
      have hn0n : 0 < n2 := by have := HN2.out; omega
      clear hb7 hj2 hpr2
      go_wp2_with fail
      clear hq0 b1 b2 b3 hwm1
      go_loopw [13, 14, 15, 16] (fun iv _ _ _ wz => ∃ i : Nat, iv = .int .i64 (i : Int) ∧ Hid (i ≤ m ∧ Below w7.heap.size w7 wz)) (fun iv _ _ _ _ => m + 1 - (intOf iv).toNat)
      case atStart => exact ⟨0, rfl, Lib.hid ⟨Nat.zero_le _, Below.refl _ _⟩⟩
      case round =>
        obtain ⟨i, rfl, HI⟩ := hrel
        rename_i wr
        have hle := HI.out.1
        have hm180 := HM.out.1
        by_cases hi : i < m
        case neg =>
          have hd : decide ((i : Int) < (m : Int)) = false := decide_eq_false (by omega)
          have hdn : decide (i < m) = false := decide_eq_false hi
          have hll : (m : Int) ≤ (i : Int) := by omega
          have HB8 := Lib.hid (HB2.out.trans ((HB7.out.trans (HI.out.2.mono HB7.out.size)).mono HB2.out.size))
          have HPR := Lib.hid (HP7.out.stays HI.out.2)
          have HQR := Lib.hid (HQ7.out.stays HI.out.2)
          clear hle hi hm180
          go_wp2_with fail
          go_at_call 9
          with_reducible refine (HA.out _).mono ?_
          rintro e w9 ⟨rfl, hb9⟩
          have HB9 := Lib.hid (HB8.out.trans (hb9.mono HB8.out.size))
          have HPR9 := Lib.hid (HPR.out.stays hb9)
          have HQR9 := Lib.hid (HQR.out.stays hb9)
          have HD1 := Lib.hid (by have h := deep_is (cl := c2) HPR9.out.row (by rw [plL_len]; have := HM.out.1; omega); rw [plL_len, plL_deep l m m (Nat.le_refl _)] at h; exact h : Calls Try.prog 16 #[.slice A2 m c2] w9 fun e w' => e = .returned (.int .i64 0) ∧ Below w9.heap.size w9 w')
          clear hb9
          go_wp2_with fail
          go_at_call 16
          with_reducible refine HD1.out.mono ?_
          rintro e w10 ⟨rfl, hb10⟩
          have HB10 := Lib.hid (HB9.out.trans (hb10.mono HB9.out.size))
          have HQR10 := Lib.hid (HQR9.out.stays hb10)
          have HD2 := Lib.hid (by have h := deep_is (cl := c6) HQR10.out.row (by rw [inL_len]; have := HM.out.1; omega); rw [inL_len, inL_deep2, ← HN2.out] at h; exact h : Calls Try.prog 16 #[.slice A6 n2 c6] w10 fun e w' => e = .returned (.int .i64 1) ∧ Below w10.heap.size w10 w')
          clear hb10
          go_wp2_with fail
          go_at_call 16
          with_reducible refine HD2.out.mono ?_
          rintro e w11 ⟨rfl, hb11⟩
          have HB11 := Lib.hid (HB10.out.trans (hb11.mono HB10.out.size))
          clear hb11
          go_wp2_with fail
          go_ret
          exact ⟨rfl, HB11.out⟩
        have hil : (i : Int) < (m : Int) := by omega
        have hd : decide ((i : Int) < (m : Int)) = true := decide_eq_true hil
        have hdn : decide (i < m) = true := decide_eq_true hi
        have hwi : IntKind.i64.wrap ((i : Int) + 1) = ((i + 1 : Nat) : Int) := by rw [IntWalk.i64_in _ (by omega)]; omega
        obtain ⟨i1, hi1⟩ : ∃ i1, i1 = i + 1 := ⟨_, rfl⟩
        rw [← hi1] at hwi
        have HI1 := Lib.hid (And.intro hi1 hi)
        have HPI := Lib.hid (HP7.out.stays HI.out.2)
        have HQI := Lib.hid (HQ7.out.stays HI.out.2)
        obtain ⟨ga, o2, rfl, kN0, _⟩ := HPI.out.name (plL_get (l := l) hi)
        have kP : wr.cell? ⟨ga, o2 + i * 42, none⟩ = some (.complex .f64 4607182418800017408 (floatOfInt .f64 ((i : Int) + 1))) := by
          obtain ⟨ga', o', he, h⟩ := raw_elem CM.len (by omega) HPI.out.row (plL_get (l := l) hi)
          injection he with he
          injection he with he he'
          subst he
          subst he'
          exact h 0 _ rfl
        have kJ := HPI.out.jump hi
        have kN1 : wr.cell? ⟨g, i * 43 + 1, none⟩ = some (.int .u8 (letterOf (l.getD i 0) : Int)) := ins_cmd HPI.out.prog hi (plL_get (l := l) hi) 1 _ rfl
        have hi2 : i1 < n2 := by have := HN2.out; omega
        have kJ2 := HQI.out.jump hi2
        have kP2 : wr.cell? ⟨g2, i1 * 43, none⟩ = some (.complex .f64 4607182418800017408 (floatOfInt .f64 ((i : Int) + 1))) := by
          have h := ins_cmd HQI.out.prog hi2 (by rw [hi1]; exact inL_get (l := l) hi) 0 _ rfl
          exact h
        have kN : wr.cell? ⟨ga, o2 + i * 42 + 1, none⟩ = some (.int .u8 (letterOf (l.getD i 0) : Int)) := kN0
        clear kN0
        have hcs : ∀ W : World, (binOp .neq 28 (.complex .f64 4607182418800017408 (floatOfInt .f64 ((i : Int) + 1))) (.complex .f64 4607182418800017408 (floatOfInt .f64 ((i : Int) + 1)))).run Try.prog W = .ok (.bool false) W := fun W => by
          have h := cplx_same (i + 1) (by omega) W
          push_cast at h
          exact h
        have hnm := plL_name (l := l) hi
        have htx : cT (plL l m) i = ⟨#[]⟩ := plL_text
        have hnm2 : cN (inL l m) i1 = (letterOf (l.getD i 0) : Int) := by rw [hi1, inL_name hi, hnm]
        have htx2 := inL_text' l m i1
        have hok0 := letter_ok (l.getD i 0)
        obtain ⟨L, hL⟩ : ∃ L : Int, L = ((letterOf (l.getD i 0) : Nat) : Int) := ⟨_, rfl⟩
        have hok : L ≠ 123 ∧ L ≠ 125 ∧ L ≠ 58 := by rw [hL]; omega
        rw [← hL] at kN kN1 hnm hnm2
        clear hok0
        have hi2i : (i1 : Int) < (n2 : Int) := by omega
        have b1 : ((m : Int) != (m : Int)) = false := by simp
        have b2 : ((n2 : Int) != (n2 : Int)) = false := by simp
        by_cases hbt : L = 98 ∨ L = 116
        case neg =>
          have g98 : (L == 98) = false := by rw [beq_eq_false_iff_ne]; omega
          have g116 : (L == 116) = false := by rw [beq_eq_false_iff_ne]; omega
          have n98 : ¬ L = 98 := fun h => hbt (.inl h)
          have n116 : ¬ L = 116 := fun h => hbt (.inr h)
          rw [HJ1.out.other i (by rw [hnm]; omega) (by rw [hnm]; omega) (by rw [hnm]; omega)] at kJ
          rw [HJ2.out.other i1 (by rw [hnm2]; omega) (by rw [hnm2]; omega) (by rw [hnm2]; omega)] at kJ2
          clear hle hm180 hi hi1 hnm htx hnm2 htx2 hok hL hbt
          go_wp2_with fail
          go_quiet (fail)
          go_wp2_with fail
          go_roundw
          case rel => exact ⟨i1, rfl, Lib.hid ⟨by have := HI1.out; omega, ⟨HI.out.2.os, HI.out.2.tape, HI.out.2.output, HI.out.2.size, HI.out.2.block⟩⟩⟩
          case measure => have := HI1.out; simp [intOf]; omega
        case pos =>
        rw [HJ1.out.top i hi (by rw [hnm]; omega) htx] at kJ
        rw [HJ2.out.top i1 hi2 (by rw [hnm2]; omega) htx2] at kJ2
        rcases hbt with hbt | hbt
        · have g98 : (L == 98) = true := by rw [hbt]; rfl
          clear hle hm180 hi hi1 hnm htx hnm2 htx2 hok hL hbt
          go_wp2_with fail
          go_quiet (fail)
          go_wp2_with fail
          go_roundw
          case rel => exact ⟨i1, rfl, Lib.hid ⟨by have := HI1.out; omega, ⟨HI.out.2.os, HI.out.2.tape, HI.out.2.output, HI.out.2.size, HI.out.2.block⟩⟩⟩
          case measure => have := HI1.out; simp [intOf]; omega
        · have g98 : (L == 98) = false := by rw [hbt]; rfl
          have g116 : (L == 116) = true := by rw [hbt]; rfl
          have n98 : ¬ L = 98 := by rw [hbt]; omega
          clear hle hm180 hi hi1 hnm htx hnm2 htx2 hok hL hbt
          go_wp2_with fail
          go_quiet (fail)
          go_wp2_with fail
          go_roundw
          case rel => exact ⟨i1, rfl, Lib.hid ⟨by have := HI1.out; omega, ⟨HI.out.2.os, HI.out.2.tape, HI.out.2.output, HI.out.2.size, HI.out.2.block⟩⟩⟩
          case measure => have := HI1.out; simp [intOf]; omega
    obtain ⟨hm, h180⟩ := hm
    obtain ⟨b, hb⟩ : ∃ b, l[m]? = some b := ⟨l[m], by simp [hm]⟩
    obtain ⟨g, o, rfl, hcell⟩ := (HR.out _ HJ.out.bel).cell (i := m) (v := .int .u8 (b.toNat : Int)) (by simp [u8V, hb])
    have hd : decide ((m : Int) < (l.length : Int)) = true := decide_eq_true (by omega)
    have hdn : decide (m < l.length) = true := decide_eq_true hm
    have hli : (m : Int) < (l.length : Int) := by omega
    have d1 : decide ((m : Int) < 180) = true := decide_eq_true (by omega)
    have d1n : decide (m < 180) = true := decide_eq_true h180
    have hb256 := b.toNat_lt
    have HB := Lib.hid (And.intro hb (And.intro hm h180))
    have hadd : IntKind.i64.wrap ((m : Int) + 1) = (m : Int) + 1 := IntWalk.i64_in _ (by omega)
    clear hb hm hle hmo
    go_upto_region 6 with fail
    rw [letter_get]
    have hcx := complex_run
    have HLB := Lib.hid (show b = l.getD m 0 by rw [List.getD_eq_getElem?_getD, HB.out.1]; rfl)
    obtain ⟨L, hL⟩ : ∃ L : Int, L = ((letterOf b : Nat) : Int) := ⟨_, rfl⟩
    rw [← hL]
    have HLL := Lib.hid hL
    clear hL hcell
    go_wp2_with (first | (refine wpList_build_np rfl (.tmp 35) (.tmp 39) rfl rfl rfl ?_) | (refine wpList_lit_one rfl (.tmp 40) rfl (c := ⟨4607182418800017408, floatOfInt .f64 ((m : Int) + 1), L, ⟨#[]⟩, ⟨#[]⟩⟩) rfl ?_))
    intro W1 hown1 hb1
    have HO1 := Lib.hid (HJ.out.own.below hb1)
    have HW1 := Lib.hid hb1
    have HR1 := Lib.hid (show RawAt W1 (some ⟨wr.heap.size, 0, none⟩) (cmV [(⟨4607182418800017408, floatOfInt .f64 ((m : Int) + 1), L, ⟨#[]⟩, ⟨#[]⟩⟩ : CM)]) by
      obtain ⟨A, c, e, h⟩ := hown1.raw
      injection e with e
      subst e
      exact h)
    clear hown1 hb1
    go_wp2_with (refine wpList_append_cmd 42 [(⟨4607182418800017408, floatOfInt .f64 ((m : Int) + 1), L, ⟨#[]⟩, ⟨#[]⟩⟩ : CM)] HO1.out HR1.out rfl rfl rfl (by have := HB.out.2.2; rw [plL_len]; simp; omega) (by have := HJ.out.bel.size; have := HW1.out.size; omega) ?_)
    intro v2 W2 hown2 ht2 hk2
    have HN := Lib.hid (show PlJ l w W2 (m + 1) v2 from ⟨HB.out.2.1, HB.out.2.2, by
      rw [plL_succ, ← HLB.out]
      have e : plC b m = (⟨4607182418800017408, floatOfInt .f64 ((m : Int) + 1), L, ⟨#[]⟩, ⟨#[]⟩⟩ : CM) := by rw [HLL.out]; rfl
      rw [e]
      exact hown2, (HJ.out.bel.trans (HW1.out.mono HJ.out.bel.size)).trans (ht2.below (by have := HJ.out.bel.size; have := HW1.out.size; omega) fun k hk => (World.ownsRow.lt HJ.out.own k hk).1)⟩)
    clear hown2 ht2 hk2
    go_wp2_with fail
    go_roundw
    case rel => exact ⟨m + 1, v2, rfl, by push_cast; rfl, HN⟩
    case measure => have := HB.out.2.2; simp [intOf]; omega
end Go.Proofs.Ythlkmlphbepnpaa

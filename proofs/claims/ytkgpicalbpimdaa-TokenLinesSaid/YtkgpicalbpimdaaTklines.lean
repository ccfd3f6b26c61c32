/-
  TokenLines: it returns true and turns nothing that was there. No condition.
-/
import Derived.Test.YtkgpicalbpimdaaTkesc
import Derived.Test.YtkgpicalbpimdaaTklin
namespace Go.Proofs.Ytkgpicalbpimdaa
open Go.RowKit Go.Deep

theorem linV_form2 (r : Option (List UInt8 × Nat)) : ∃ s n e, LinV r = .tuple #[.string s, .int .i64 n, .int .i64 e] := by
  cases r with
  | none => exact ⟨_, _, _, rfl⟩
  | some p => exact ⟨_, _, _, rfl⟩
theorem run_three (W : World) : (convert 37 9 (.slice (some ⟨W.heap.size, 0, none⟩) 3 3)).run Try.prog (W.alloc (.cells #[.int .u8 32, .int .u8 92, .int .u8 10] 5)) =
    .ok (.string ⟨#[32, 92, 10]⟩) (W.alloc (.cells #[.int .u8 32, .int .u8 92, .int .u8 10] 5)) := by
  refine run_convert_bytes_back (P := Try.prog) _ 37 9 5 ⟨W.heap.size, 0, none⟩ 3 [32, 92, 10] Try.underlying37 Try.underlying5 Try.underlying9 (fun j hj => ?_)
  match j, hj with
  | 0, _ => simp [Addr.add, go_sem]
  | 1, _ => simp [Addr.add, go_sem]
  | 2, _ => simp [Addr.add, go_sem]
theorem lin_begin (l : List UInt8) : linG ([32, 92, 10] ++ l) 0 = (linF l).map fun p => (p.1, 3 + p.2) := by
  unfold linG
  rw [if_pos ⟨by omega, by omega⟩]
  have e : blk (([32, 92, 10] ++ l).drop (0 : Int).toNat) = 1 := rfl
  rw [e, if_pos ⟨rfl, rfl⟩]
  unfold linAt
  simp
theorem lin_one (l : List UInt8) : linG ([32, 92, 10] ++ esc 92 l) 0 = some (l ++ [10], 3 + (esc 92 l).length) := by
  rw [lin_begin]
  have := lin_esc l []
  rw [List.append_nil] at this
  rw [this]
  rfl
theorem lin_two (l r : List UInt8) : linG ([32, 92, 10] ++ esc 92 l ++ [10] ++ r) 0 = some (l ++ [10], 3 + (esc 92 l).length) := by
  rw [List.append_assoc, List.append_assoc, lin_begin, lin_esc]
  rw [show [10] ++ r = 10 :: r from rfl, lin_feed]
  rfl
theorem lin_plain {l : List UInt8} (h : ∀ c, l[0]? = some c → isBl c = false) (h2 : ¬ (l[0]? = some 92 ∧ l[1]? = some 10)) : linG l 0 = none := by
  unfold linG
  rw [if_pos ⟨by omega, by omega⟩]
  have e : blk (l.drop (0 : Int).toNat) = 0 := by
    cases l with
    | nil => rfl
    | cons c r => exact blk_no (h c rfl)
  rw [e]
  exact if_neg h2
theorem lines_long {s r : ByteArray} (h1 : s.size ≤ 300) (h2 : r.size ≤ 300) : ((⟨#[32, 92, 10]⟩ : ByteArray) ++ txt (esc 92 s.data.toList) ++ ⟨#[10]⟩ ++ r).size ≤ 904 ∧ ((⟨#[32, 92, 10]⟩ : ByteArray) ++ txt (esc 92 s.data.toList) ++ ⟨#[10]⟩).size ≤ 604 ∧ ((⟨#[32, 92, 10]⟩ : ByteArray) ++ txt (esc 92 s.data.toList)).size ≤ 603 ∧ (txt (esc 92 s.data.toList)).size ≤ 600 ∧ ((⟨#[32, 92, 10]⟩ : ByteArray) ++ txt (esc 92 s.data.toList)).size = 3 + (esc 92 s.data.toList).length ∧ (s ++ (⟨#[10]⟩ : ByteArray)).size ≤ 301 := by
  have h := esc_le 92 s.data.toList
  have e := size_of (s := s) rfl
  have e3 : (⟨#[32, 92, 10]⟩ : ByteArray).size = 3 := rfl
  have e1 : (⟨#[10]⟩ : ByteArray).size = 1 := rfl
  have q1 : ((⟨#[32, 92, 10]⟩ : ByteArray) ++ txt (esc 92 s.data.toList)).size = 3 + (esc 92 s.data.toList).length := by rw [ByteArray.size_append, e3, size_txt]
  have q2 : ((⟨#[32, 92, 10]⟩ : ByteArray) ++ txt (esc 92 s.data.toList) ++ ⟨#[10]⟩).size = 3 + (esc 92 s.data.toList).length + 1 := by rw [ByteArray.size_append, q1, e1]
  have q3 : ((⟨#[32, 92, 10]⟩ : ByteArray) ++ txt (esc 92 s.data.toList) ++ ⟨#[10]⟩ ++ r).size = 3 + (esc 92 s.data.toList).length + 1 + r.size := by rw [ByteArray.size_append, q2]
  have q4 : (s ++ (⟨#[10]⟩ : ByteArray)).size = s.size + 1 := by rw [ByteArray.size_append, e1]
  rw [q3, q2, q1, q4, size_txt]
  omega
theorem add_ten (s : ByteArray) : txt (s.data.toList ++ [10]) = s ++ ⟨#[10]⟩ := by
  rw [← txt_append, txt_of]; rfl
set_option maxRecDepth 100000 in
set_option maxHeartbeats 8000000 in
theorem lines_walk (s r : ByteArray) (w : World) : Calls Try.prog 7 #[.string s, .string r] w (Alv w) := by
  have HAL := Lib.hid fun (W : World) => alive_is W
  unfold Alv at HAL ⊢
  by_cases hz : s.size ≤ 300
  case neg =>
    have g : decide ((s.size : Int) > 300) = true := decide_eq_true (by omega)
    have gn : decide (300 < s.size) = true := decide_eq_true (by omega)
    clear hz
    go_enter Try.func7, Try.ntmps7
    go_wp2_with fail
    go_at_call 10
    refine (HAL.out _).mono ?_
    rintro e w1 ⟨rfl, hb⟩
    have HB := Lib.hid hb
    clear hb
    go_wp2_with fail
    go_ret
    exact ⟨rfl, HB.out⟩
  case pos =>
  have gs : decide ((s.size : Int) > 300) = false := decide_eq_false (by omega)
  have gsn : decide (300 < s.size) = false := decide_eq_false (by omega)
  have gsi : (s.size : Int) ≤ 300 := by omega
  by_cases hr : r.size ≤ 300
  case neg =>
    have g : decide ((r.size : Int) > 300) = true := decide_eq_true (by omega)
    have gn : decide (300 < r.size) = true := decide_eq_true (by omega)
    clear hz hr
    go_enter Try.func7, Try.ntmps7
    go_wp2_with fail
    go_at_call 10
    refine (HAL.out _).mono ?_
    rintro e w1 ⟨rfl, hb⟩
    have HB := Lib.hid hb
    clear hb
    go_wp2_with fail
    go_ret
    exact ⟨rfl, HB.out⟩
  case pos =>
  have gr : decide ((r.size : Int) > 300) = false := decide_eq_false (by omega)
  have grn : decide (300 < r.size) = false := decide_eq_false (by omega)
  have gri : (r.size : Int) ≤ 300 := by omega
  have HES : Hid (∀ W : World, Calls Try.prog 23 #[.string s, .int .u8 92] W fun e w' => e = .returned (.string (txt (esc 92 s.data.toList))) ∧ Below W.heap.size W w') := Lib.hid fun (W : World) => escaped_is s (by omega) 92 W
  obtain ⟨hl1, hl2, hl3, hl4, hl5, hl6⟩ := lines_long hz hr
  have HL1 := Lib.hid fun (W : World) => lines_is ((⟨#[32, 92, 10]⟩ : ByteArray) ++ txt (esc 92 s.data.toList)) (by omega) 0 W
  have HL2 := Lib.hid fun (W : World) => lines_is ((⟨#[32, 92, 10]⟩ : ByteArray) ++ txt (esc 92 s.data.toList) ++ ⟨#[10]⟩ ++ r) (by omega) 0 W
  have HL3 := Lib.hid fun (W : World) => lines_is s (by omega) 0 W
  have h3l : (⟨#[32, 92, 10]⟩ : ByteArray) = txt [32, 92, 10] := rfl
  have h1l : (⟨#[10]⟩ : ByteArray) = txt [10] := rfl
  rw [show ((⟨#[32, 92, 10]⟩ : ByteArray) ++ txt (esc 92 s.data.toList)).data.toList = [32, 92, 10] ++ esc 92 s.data.toList by rw [h3l, txt_append]; simp [txt], lin_one] at HL1
  rw [show ((⟨#[32, 92, 10]⟩ : ByteArray) ++ txt (esc 92 s.data.toList) ++ ⟨#[10]⟩ ++ r).data.toList = [32, 92, 10] ++ esc 92 s.data.toList ++ [10] ++ r.data.toList by
    rw [show r = txt r.data.toList from (txt_of r).symm, h3l, h1l, txt_append, txt_append, txt_append]; simp [txt], lin_two] at HL2
  unfold LinAns at HL1 HL2 HL3
  rw [← hl5] at HL1 HL2
  simp only [LinV] at HL1 HL2
  rw [add_ten] at HL1 HL2
  have HPL := Lib.hid (fun h h2 => lin_plain (l := s.data.toList) h h2)
  obtain ⟨ls, ln, le, hlf⟩ := linV_form2 (linG s.data.toList 0)
  have HEQ := Lib.hid (show linG s.data.toList 0 = none → le = 121 from fun h => by
    rw [h] at hlf
    simp only [LinV, Value.tuple.injEq] at hlf
    have := congrArg (fun a : Array Value => a.toList) hlf
    simp at this
    exact this.2.2.symm)
  rw [hlf] at HL3
  clear hlf hl5
  have HSZ := Lib.hid (size_of (s := s) rfl)
  obtain ⟨E, hE⟩ : ∃ E, E = txt (esc 92 s.data.toList) := ⟨_, rfl⟩
  rw [← hE] at HES HL1 HL2 hl1 hl2 hl3 hl4
  clear hE h3l h1l
  have hcv := run_three w
  have HCV := Lib.hid (show ∀ W : World, (convert 37 9 (.slice (some ⟨W.heap.size, 0, none⟩) 1 1)).run Try.prog (W.alloc (.cells #[.int .u8 10] 5)) = .ok (.string ⟨#[10]⟩) (W.alloc (.cells #[.int .u8 10] 5)) from fun W => run_one 10 W)
  by_cases h0 : 0 < s.size
  case neg =>
    have hle : le = 121 := HEQ.out (HPL.out (fun c hc => by have h1 := (List.getElem?_eq_some_iff.1 hc).1; rw [← HSZ.out] at h1; exact absurd h1 h0) (fun h => by have h1 := (List.getElem?_eq_some_iff.1 h.1).1; rw [← HSZ.out] at h1; exact absurd h1 h0))
    subst hle
    have g1 : decide ((s.size : Int) > 1) = false := decide_eq_false (by omega)
    have g1n : decide (1 < s.size) = false := decide_eq_false (by omega)
    have g1i : (s.size : Int) ≤ 1 := by omega
    have g0 : decide ((s.size : Int) > 0) = false := decide_eq_false (by omega)
    have g0n : decide (0 < s.size) = false := decide_eq_false (by omega)
    have g0i : (s.size : Int) ≤ 0 := by omega
    clear h0
    go_enter Try.func7, Try.ntmps7
    go_upto_region 4 with fail
    have HB0 := Lib.hid ((Below.refl w.heap.size w).alloc (Nat.le_refl _) (.cells #[.int .u8 32, .int .u8 92, .int .u8 10] 5))
    obtain ⟨W0, hW0⟩ : ∃ W0, W0 = w.alloc (.cells #[.int .u8 32, .int .u8 92, .int .u8 10] 5) := ⟨_, rfl⟩
    rw [← hW0] at HB0 ⊢
    clear hcv hW0
    go_wp2_with fail
    go_at_call 23
    refine (HES.out _).mono ?_
    rintro e w1 ⟨rfl, hb⟩
    have HB1 := Lib.hid (HB0.out.trans (hb.mono HB0.out.size))
    clear hb
    go_wp2_with fail
    go_at_call 19
    refine (HL1.out _).mono ?_
    rintro e w2 ⟨rfl, hb⟩
    have HB2 := Lib.hid (HB1.out.trans (hb.mono HB1.out.size))
    clear hb
    have hcv := HCV.out w2
    go_wp2_with fail
    go_at_call 19
    refine (HL2.out _).mono ?_
    rintro e w3 ⟨rfl, hb⟩
    have HB3 := Lib.hid ((HB2.out.alloc HB2.out.size _).trans (hb.mono (HB2.out.alloc HB2.out.size _).size))
    clear hb hcv
    have hcv := HCV.out w3
    go_wp2_with fail
    go_at_call 19
    refine (HL3.out _).mono ?_
    rintro e w4 ⟨rfl, hb⟩
    have HB4 := Lib.hid ((HB3.out.alloc HB3.out.size _).trans (hb.mono (HB3.out.alloc HB3.out.size _).size))
    clear hb hcv
    go_wp2_with fail
    all_goals
      go_at_call 10
      refine (HAL.out _).mono ?_
      rintro e w5 ⟨rfl, hb⟩
      have HB5 := Lib.hid (HB4.out.trans (hb.mono HB4.out.size))
      clear hb
      go_wp2_with fail
      go_ret
      exact ⟨by simp, HB5.out⟩
  case pos =>
  have g0 : decide ((s.size : Int) > 0) = true := decide_eq_true (by omega)
  have g0i : (0 : Int) < (s.size : Int) := by omega
  obtain ⟨c, hc⟩ : ∃ c, s.data.toList[0]? = some c := ⟨_, List.getElem?_eq_getElem (by rw [← HSZ.out]; exact h0)⟩
  have hat := at_of rfl hc
  by_cases h32 : c = 32
  case pos =>
    have q32 : ((c.toNat : Int) == 32) = true := u8_yes c 32 h32 (by decide)
    have q92 : ((c.toNat : Int) == 92) = false := u8_no c 92 (by rw [h32]; decide) (by decide)
    clear hc h32
    go_enter Try.func7, Try.ntmps7
    go_upto_region 4 with fail
    have HB0 := Lib.hid ((Below.refl w.heap.size w).alloc (Nat.le_refl _) (.cells #[.int .u8 32, .int .u8 92, .int .u8 10] 5))
    obtain ⟨W0, hW0⟩ : ∃ W0, W0 = w.alloc (.cells #[.int .u8 32, .int .u8 92, .int .u8 10] 5) := ⟨_, rfl⟩
    rw [← hW0] at HB0 ⊢
    clear hcv hW0
    go_wp2_with fail
    go_at_call 23
    refine (HES.out _).mono ?_
    rintro e w1 ⟨rfl, hb⟩
    have HB1 := Lib.hid (HB0.out.trans (hb.mono HB0.out.size))
    clear hb
    go_wp2_with fail
    go_at_call 19
    refine (HL1.out _).mono ?_
    rintro e w2 ⟨rfl, hb⟩
    have HB2 := Lib.hid (HB1.out.trans (hb.mono HB1.out.size))
    clear hb
    have hcv := HCV.out w2
    go_wp2_with fail
    go_at_call 19
    refine (HL2.out _).mono ?_
    rintro e w3 ⟨rfl, hb⟩
    have HB3 := Lib.hid ((HB2.out.alloc HB2.out.size _).trans (hb.mono (HB2.out.alloc HB2.out.size _).size))
    clear hb hcv
    have hcv := HCV.out w3
    go_wp2_with fail
    go_at_call 19
    refine (HL3.out _).mono ?_
    rintro e w4 ⟨rfl, hb⟩
    have HB4 := Lib.hid ((HB3.out.alloc HB3.out.size _).trans (hb.mono (HB3.out.alloc HB3.out.size _).size))
    clear hb hcv
    go_wp2_with fail
    all_goals
      go_at_call 10
      refine (HAL.out _).mono ?_
      rintro e w5 ⟨rfl, hb⟩
      have HB5 := Lib.hid (HB4.out.trans (hb.mono HB4.out.size))
      clear hb
      go_wp2_with fail
      go_ret
      exact ⟨by simp, HB5.out⟩
  case neg =>
  have q32 : ((c.toNat : Int) == 32) = false := u8_no c 32 h32 (by decide)
  by_cases h9 : c = 9
  case pos =>
    have q9 : ((c.toNat : Int) == 9) = true := u8_yes c 9 h9 (by decide)
    have q92 : ((c.toNat : Int) == 92) = false := u8_no c 92 (by rw [h9]; decide) (by decide)
    clear hc h32 h9
    go_enter Try.func7, Try.ntmps7
    go_upto_region 4 with fail
    have HB0 := Lib.hid ((Below.refl w.heap.size w).alloc (Nat.le_refl _) (.cells #[.int .u8 32, .int .u8 92, .int .u8 10] 5))
    obtain ⟨W0, hW0⟩ : ∃ W0, W0 = w.alloc (.cells #[.int .u8 32, .int .u8 92, .int .u8 10] 5) := ⟨_, rfl⟩
    rw [← hW0] at HB0 ⊢
    clear hcv hW0
    go_wp2_with fail
    go_at_call 23
    refine (HES.out _).mono ?_
    rintro e w1 ⟨rfl, hb⟩
    have HB1 := Lib.hid (HB0.out.trans (hb.mono HB0.out.size))
    clear hb
    go_wp2_with fail
    go_at_call 19
    refine (HL1.out _).mono ?_
    rintro e w2 ⟨rfl, hb⟩
    have HB2 := Lib.hid (HB1.out.trans (hb.mono HB1.out.size))
    clear hb
    have hcv := HCV.out w2
    go_wp2_with fail
    go_at_call 19
    refine (HL2.out _).mono ?_
    rintro e w3 ⟨rfl, hb⟩
    have HB3 := Lib.hid ((HB2.out.alloc HB2.out.size _).trans (hb.mono (HB2.out.alloc HB2.out.size _).size))
    clear hb hcv
    have hcv := HCV.out w3
    go_wp2_with fail
    go_at_call 19
    refine (HL3.out _).mono ?_
    rintro e w4 ⟨rfl, hb⟩
    have HB4 := Lib.hid ((HB3.out.alloc HB3.out.size _).trans (hb.mono (HB3.out.alloc HB3.out.size _).size))
    clear hb hcv
    go_wp2_with fail
    all_goals
      go_at_call 10
      refine (HAL.out _).mono ?_
      rintro e w5 ⟨rfl, hb⟩
      have HB5 := Lib.hid (HB4.out.trans (hb.mono HB4.out.size))
      clear hb
      go_wp2_with fail
      go_ret
      exact ⟨by simp, HB5.out⟩
  case neg =>
  have q9 : ((c.toNat : Int) == 9) = false := u8_no c 9 h9 (by decide)
  have HNB := Lib.hid (show ∀ c', s.data.toList[0]? = some c' → isBl c' = false from fun c' hc' => by
    rw [hc] at hc'; injection hc' with hc'; rw [← hc']; unfold isBl; rw [beq_eq_false_iff_ne.2 h32, beq_eq_false_iff_ne.2 h9]; rfl)
  by_cases h92 : c = 92
  case neg =>
    have hle : le = 121 := HEQ.out (HPL.out HNB.out (fun h => h92 (by have := h.1; rw [hc] at this; injection this)))
    subst hle
    have q92 : ((c.toNat : Int) == 92) = false := u8_no c 92 h92 (by decide)
    clear hc h32 h9 h92
    go_enter Try.func7, Try.ntmps7
    go_upto_region 4 with fail
    have HB0 := Lib.hid ((Below.refl w.heap.size w).alloc (Nat.le_refl _) (.cells #[.int .u8 32, .int .u8 92, .int .u8 10] 5))
    obtain ⟨W0, hW0⟩ : ∃ W0, W0 = w.alloc (.cells #[.int .u8 32, .int .u8 92, .int .u8 10] 5) := ⟨_, rfl⟩
    rw [← hW0] at HB0 ⊢
    clear hcv hW0
    go_wp2_with fail
    go_at_call 23
    refine (HES.out _).mono ?_
    rintro e w1 ⟨rfl, hb⟩
    have HB1 := Lib.hid (HB0.out.trans (hb.mono HB0.out.size))
    clear hb
    go_wp2_with fail
    go_at_call 19
    refine (HL1.out _).mono ?_
    rintro e w2 ⟨rfl, hb⟩
    have HB2 := Lib.hid (HB1.out.trans (hb.mono HB1.out.size))
    clear hb
    have hcv := HCV.out w2
    go_wp2_with fail
    go_at_call 19
    refine (HL2.out _).mono ?_
    rintro e w3 ⟨rfl, hb⟩
    have HB3 := Lib.hid ((HB2.out.alloc HB2.out.size _).trans (hb.mono (HB2.out.alloc HB2.out.size _).size))
    clear hb hcv
    have hcv := HCV.out w3
    go_wp2_with fail
    go_at_call 19
    refine (HL3.out _).mono ?_
    rintro e w4 ⟨rfl, hb⟩
    have HB4 := Lib.hid ((HB3.out.alloc HB3.out.size _).trans (hb.mono (HB3.out.alloc HB3.out.size _).size))
    clear hb hcv
    go_wp2_with fail
    all_goals
      go_at_call 10
      refine (HAL.out _).mono ?_
      rintro e w5 ⟨rfl, hb⟩
      have HB5 := Lib.hid (HB4.out.trans (hb.mono HB4.out.size))
      clear hb
      go_wp2_with fail
      go_ret
      exact ⟨by simp, HB5.out⟩
  case pos =>
  have q92 : ((c.toNat : Int) == 92) = true := u8_yes c 92 h92 (by decide)
  by_cases h1 : 1 < s.size
  case neg =>
    have hle : le = 121 := HEQ.out (HPL.out HNB.out (fun h => by have h2 := (List.getElem?_eq_some_iff.1 h.2).1; rw [← HSZ.out] at h2; exact h1 h2))
    subst hle
    have g1 : decide ((s.size : Int) > 1) = false := decide_eq_false (by omega)
    have g1n : decide (1 < s.size) = false := decide_eq_false (by omega)
    have g1i : (s.size : Int) ≤ 1 := by omega
    clear hc h32 h9 h92
    go_enter Try.func7, Try.ntmps7
    go_upto_region 4 with fail
    have HB0 := Lib.hid ((Below.refl w.heap.size w).alloc (Nat.le_refl _) (.cells #[.int .u8 32, .int .u8 92, .int .u8 10] 5))
    obtain ⟨W0, hW0⟩ : ∃ W0, W0 = w.alloc (.cells #[.int .u8 32, .int .u8 92, .int .u8 10] 5) := ⟨_, rfl⟩
    rw [← hW0] at HB0 ⊢
    clear hcv hW0
    go_wp2_with fail
    go_at_call 23
    refine (HES.out _).mono ?_
    rintro e w1 ⟨rfl, hb⟩
    have HB1 := Lib.hid (HB0.out.trans (hb.mono HB0.out.size))
    clear hb
    go_wp2_with fail
    go_at_call 19
    refine (HL1.out _).mono ?_
    rintro e w2 ⟨rfl, hb⟩
    have HB2 := Lib.hid (HB1.out.trans (hb.mono HB1.out.size))
    clear hb
    have hcv := HCV.out w2
    go_wp2_with fail
    go_at_call 19
    refine (HL2.out _).mono ?_
    rintro e w3 ⟨rfl, hb⟩
    have HB3 := Lib.hid ((HB2.out.alloc HB2.out.size _).trans (hb.mono (HB2.out.alloc HB2.out.size _).size))
    clear hb hcv
    have hcv := HCV.out w3
    go_wp2_with fail
    go_at_call 19
    refine (HL3.out _).mono ?_
    rintro e w4 ⟨rfl, hb⟩
    have HB4 := Lib.hid ((HB3.out.alloc HB3.out.size _).trans (hb.mono (HB3.out.alloc HB3.out.size _).size))
    clear hb hcv
    go_wp2_with fail
    all_goals
      go_at_call 10
      refine (HAL.out _).mono ?_
      rintro e w5 ⟨rfl, hb⟩
      have HB5 := Lib.hid (HB4.out.trans (hb.mono HB4.out.size))
      clear hb
      go_wp2_with fail
      go_ret
      exact ⟨by simp, HB5.out⟩
  case pos =>
  have g1 : decide ((s.size : Int) > 1) = true := decide_eq_true (by omega)
  have g1i : (1 : Int) < (s.size : Int) := by omega
  obtain ⟨d, hd⟩ : ∃ d, s.data.toList[1]? = some d := ⟨_, List.getElem?_eq_getElem (by rw [← HSZ.out]; exact h1)⟩
  have hat1 := at_of rfl hd
  by_cases h10 : d = 10
  case pos =>
    have q10 : ((d.toNat : Int) == 10) = true := u8_yes d 10 h10 (by decide)
    clear hc hd h32 h9 h92 h10
    go_enter Try.func7, Try.ntmps7
    go_upto_region 4 with fail
    have HB0 := Lib.hid ((Below.refl w.heap.size w).alloc (Nat.le_refl _) (.cells #[.int .u8 32, .int .u8 92, .int .u8 10] 5))
    obtain ⟨W0, hW0⟩ : ∃ W0, W0 = w.alloc (.cells #[.int .u8 32, .int .u8 92, .int .u8 10] 5) := ⟨_, rfl⟩
    rw [← hW0] at HB0 ⊢
    clear hcv hW0
    go_wp2_with fail
    go_at_call 23
    refine (HES.out _).mono ?_
    rintro e w1 ⟨rfl, hb⟩
    have HB1 := Lib.hid (HB0.out.trans (hb.mono HB0.out.size))
    clear hb
    go_wp2_with fail
    go_at_call 19
    refine (HL1.out _).mono ?_
    rintro e w2 ⟨rfl, hb⟩
    have HB2 := Lib.hid (HB1.out.trans (hb.mono HB1.out.size))
    clear hb
    have hcv := HCV.out w2
    go_wp2_with fail
    go_at_call 19
    refine (HL2.out _).mono ?_
    rintro e w3 ⟨rfl, hb⟩
    have HB3 := Lib.hid ((HB2.out.alloc HB2.out.size _).trans (hb.mono (HB2.out.alloc HB2.out.size _).size))
    clear hb hcv
    have hcv := HCV.out w3
    go_wp2_with fail
    go_at_call 19
    refine (HL3.out _).mono ?_
    rintro e w4 ⟨rfl, hb⟩
    have HB4 := Lib.hid ((HB3.out.alloc HB3.out.size _).trans (hb.mono (HB3.out.alloc HB3.out.size _).size))
    clear hb hcv
    go_wp2_with fail
    all_goals
      go_at_call 10
      refine (HAL.out _).mono ?_
      rintro e w5 ⟨rfl, hb⟩
      have HB5 := Lib.hid (HB4.out.trans (hb.mono HB4.out.size))
      clear hb
      go_wp2_with fail
      go_ret
      exact ⟨by simp, HB5.out⟩
  case neg =>
    have hle : le = 121 := HEQ.out (HPL.out HNB.out (fun h => h10 (by have := h.2; rw [hd] at this; injection this)))
    subst hle
    have q10 : ((d.toNat : Int) == 10) = false := u8_no d 10 h10 (by decide)
    clear hc hd h32 h9 h92 h10
    go_enter Try.func7, Try.ntmps7
    go_upto_region 4 with fail
    have HB0 := Lib.hid ((Below.refl w.heap.size w).alloc (Nat.le_refl _) (.cells #[.int .u8 32, .int .u8 92, .int .u8 10] 5))
    obtain ⟨W0, hW0⟩ : ∃ W0, W0 = w.alloc (.cells #[.int .u8 32, .int .u8 92, .int .u8 10] 5) := ⟨_, rfl⟩
    rw [← hW0] at HB0 ⊢
    clear hcv hW0
    go_wp2_with fail
    go_at_call 23
    refine (HES.out _).mono ?_
    rintro e w1 ⟨rfl, hb⟩
    have HB1 := Lib.hid (HB0.out.trans (hb.mono HB0.out.size))
    clear hb
    go_wp2_with fail
    go_at_call 19
    refine (HL1.out _).mono ?_
    rintro e w2 ⟨rfl, hb⟩
    have HB2 := Lib.hid (HB1.out.trans (hb.mono HB1.out.size))
    clear hb
    have hcv := HCV.out w2
    go_wp2_with fail
    go_at_call 19
    refine (HL2.out _).mono ?_
    rintro e w3 ⟨rfl, hb⟩
    have HB3 := Lib.hid ((HB2.out.alloc HB2.out.size _).trans (hb.mono (HB2.out.alloc HB2.out.size _).size))
    clear hb hcv
    have hcv := HCV.out w3
    go_wp2_with fail
    go_at_call 19
    refine (HL3.out _).mono ?_
    rintro e w4 ⟨rfl, hb⟩
    have HB4 := Lib.hid ((HB3.out.alloc HB3.out.size _).trans (hb.mono (HB3.out.alloc HB3.out.size _).size))
    clear hb hcv
    go_wp2_with fail
    all_goals
      go_at_call 10
      refine (HAL.out _).mono ?_
      rintro e w5 ⟨rfl, hb⟩
      have HB5 := Lib.hid (HB4.out.trans (hb.mono HB4.out.size))
      clear hb
      go_wp2_with fail
      go_ret
      exact ⟨by simp, HB5.out⟩

end Go.Proofs.Ytkgpicalbpimdaa

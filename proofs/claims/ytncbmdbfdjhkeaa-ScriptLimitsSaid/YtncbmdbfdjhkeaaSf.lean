/-
  Package script: what may follow a command; a path; what negates a command. Condition: texts of at most 2000 bytes.
-/
import Derived.Test.YtncbmdbfdjhkeaaSe
import Derived.Lib.ConvBytes
namespace Go.Proofs.Ytncbmdbfdjhkeaa
open Go.RowKit Go.Deep Go.Sort

def Answers (v : Value) (w : World) (e : Ending) (w' : World) : Prop := e = .returned v ∧ Below w.heap.size w w'
/-- What a file's path is. -/
def RightP (s : ByteArray) : Prop := 1 ≤ s.size ∧ s.size ≤ 32 ∧ ∀ i (h : i < s.size), 33 ≤ s[i].toNat ∧ s[i].toNat ≤ 126
instance (s : ByteArray) : Decidable (RightP s) := inferInstanceAs (Decidable (_ ∧ _ ∧ ∀ i (_h : i < s.size), _))
set_option maxRecDepth 100000 in
set_option maxHeartbeats 2000000 in
theorem tree_right (s : ByteArray) (w : World) (hs : s.size ≤ 281474976710656) : Calls Try.prog 45 #[.string s] w (Answers (.bool (decide (RightP s))) w) := by
  have hcv := Lib.run_convert_string_bytes (P := Try.prog) w 9 29 5 s Try.underlying9 Try.underlying29 Try.underlying5
  have hcell : ∀ j (h : j < s.size), (Lib.bytesWorld w 5 s).cell? ⟨w.heap.size, j, none⟩ = some (.int .u8 (s[j].toNat : Int)) := fun j h => by
    have h1 := Lib.bytesWorld_cell w 5 s j h
    have h2 : s.data.toList.getD j 0 = s[j] := by
      rw [List.getD_eq_getElem?_getD, List.getElem?_eq_getElem (by simpa using h)]
      rfl
    rw [h2] at h1
    exact h1
  have hbel : Below w.heap.size w (Lib.bytesWorld w 5 s) := ⟨rfl, rfl, rfl, by rw [Lib.bytesWorld_size]; omega, fun j hj => Lib.bytesWorld_at_old w 5 s j hj⟩
  obtain ⟨cap, ecap⟩ : ∃ c, c = grownCap w s.size 0 5 := ⟨_, rfl⟩
  obtain ⟨WB, eWB⟩ : ∃ W, W = Lib.bytesWorld w 5 s := ⟨_, rfl⟩
  rw [← ecap, ← eWB] at hcv
  rw [← eWB] at hcell hbel
  have HC := Lib.hid hcell
  have HB := Lib.hid hbel
  clear hcell hbel ecap eWB
  go_enter Try.func45, Try.ntmps45
  go_wp2_with fail
  clear hcv
  go_loop [8] (fun iv => ∃ i : Nat, iv = .int .i64 (i : Int) ∧ i ≤ s.size ∧ Hid (∀ j (h : j < s.size), j < i → 33 ≤ s[j].toNat ∧ s[j].toNat ≤ 126)) (fun iv => s.size - (intOf iv).toNat)
  case atStart => exact ⟨0, rfl, Nat.zero_le _, Lib.hid fun j _ h => by omega⟩
  case round =>
    obtain ⟨i, rfl, hi, HALL⟩ := hrel
    by_cases hlt : i < s.size
    · have hiI : (i : Int) < (s.size : Int) := by omega
      have hi0 : (0 : Int) ≤ (i : Int) := by omega
      have kc0 : WB.cell? ⟨w.heap.size, 0 + i, none⟩ = some (.int .u8 (s[i].toNat : Int)) := by rw [Nat.zero_add]; exact HC.out i hlt
      have kc1 : WB.cell? ⟨w.heap.size, i, none⟩ = some (.int .u8 (s[i].toNat : Int)) := HC.out i hlt
      obtain ⟨v, ev⟩ : ∃ v : Nat, v = s[i].toNat := ⟨_, rfl⟩
      rw [← ev] at kc0 kc1
      by_cases h33 : v < 33
      · have g1 : decide ((v : Int) < 33) = true := decide_eq_true (by omega)
        have g1n : decide (v < 33) = true := decide_eq_true (by omega)
        have HN := Lib.hid (show ¬ RightP s from fun h => by have := (h.2.2 i hlt).1; omega)
        clear h33 ev
        go_wp2_with fail
        go_ret
        exact ⟨by rw [decide_eq_false HN.out]; rfl, HB.out⟩
      · have g1 : decide ((v : Int) < 33) = false := decide_eq_false (by omega)
        have g1n : decide (v < 33) = false := decide_eq_false (by omega)
        by_cases h126 : 126 < v
        · have g2 : decide (126 < (v : Int)) = true := decide_eq_true (by omega)
          have g2n : decide (126 < v) = true := decide_eq_true (by omega)
          have HN := Lib.hid (show ¬ RightP s from fun h => by have := (h.2.2 i hlt).2; omega)
          clear h33 h126 ev
          go_wp2_with fail
          go_ret
          exact ⟨by rw [decide_eq_false HN.out]; rfl, HB.out⟩
        · have g2 : decide (126 < (v : Int)) = false := decide_eq_false (by omega)
          have g2n : decide (126 < v) = false := decide_eq_false (by omega)
          have HNX := Lib.hid (show ∀ j (h : j < s.size), j < i + 1 → 33 ≤ s[j].toNat ∧ s[j].toNat ≤ 126 from fun j h hj => by
            by_cases e : j = i
            · subst e; omega
            · exact HALL.out j h (by omega))
          clear h33 h126 ev
          go_wp2_with fail
          go_round
          case rel => exact ⟨i + 1, by go_num, by omega, HNX⟩
          case measure => simp [intOf]; omega
    · have hie : i = s.size := by omega
      have hin : ¬ (i : Int) < (s.size : Int) := by omega
      by_cases h1 : 1 ≤ s.size
      · have g1 : decide ((1 : Int) ≤ (s.size : Int)) = true := decide_eq_true (by omega)
        have g1n : decide (1 ≤ s.size) = true := decide_eq_true h1
        have g1m : decide (0 < s.size) = true := decide_eq_true h1
        have HEQ := Lib.hid (show decide (RightP s) = decide ((s.size : Int) ≤ 32) from by
          by_cases h32 : s.size ≤ 32
          · rw [decide_eq_true (show RightP s from ⟨h1, h32, fun j hj => HALL.out j hj (by omega)⟩), decide_eq_true (by omega)]
          · rw [decide_eq_false (fun h => h32 h.2.1), decide_eq_false (by omega)])
        clear h1 hie hlt hi
        go_wp2_with fail
        go_ret
        exact ⟨by rw [HEQ.out]; simp, HB.out⟩
      · have g1 : decide ((1 : Int) ≤ (s.size : Int)) = false := decide_eq_false (by omega)
        have g1n : decide (1 ≤ s.size) = false := decide_eq_false h1
        have g1m : decide (0 < s.size) = false := decide_eq_false h1
        have HEQ := Lib.hid (show decide (RightP s) = false from decide_eq_false fun h => h1 h.1)
        clear h1 hie hlt hi
        go_wp2_with fail
        go_ret
        exact ⟨by rw [HEQ.out]; rfl, HB.out⟩
/-- Whether what follows may follow a command. -/
def endF (l : List UInt8) (m : Nat) : Bool := cond (m == l.length) true (oneF [10, 59, 125, 35] l (m : Int))
set_option maxRecDepth 100000 in
set_option maxHeartbeats 8000000 in
theorem ended_m {s : ByteArray} {ext : Bool} {r n m : Nat} {w : World} (hz : s.size ≤ 2000) (h : Rd s ext r (n : Int) w) (hm : m = n + blk (s.data.toList.drop n)) : Calls Try.prog 21 #[.pointer (some ⟨r, 0, none⟩)] w fun e w' => e = .returned (.bool (endF s.data.toList m)) ∧ Mv s ext r (m : Int) w w' := by
  have HB := Lib.hid (by have := blanks_m (n := (n : Int)) hz h; rw [blanks_nat, ← hm] at this; exact this : Calls Try.prog 11 #[.pointer (some ⟨r, 0, none⟩)] w (fun e w' => e = .returned (.tuple #[]) ∧ Mv s ext r (m : Int) w w'))
  have hl : s.data.toList.length = s.size := by simp
  have HL := Lib.hid hl
  clear hl h hm
  go_enter Try.func21, Try.ntmps21
  go_wp2_with fail
  go_at_call 11
  with_reducible refine HB.out.mono ?_
  rintro e w1 ⟨rfl, hv⟩
  have H1 := Lib.hid hv
  clear hv
  go_upto_region 2 with fail
  have k0 := cell_regrown H1.out.rd.text
  have k1 := cell_regrown H1.out.rd.at
  have HF := Lib.hid (show ∀ (k : Nat) (os : Array Obj), Calls Try.prog 13 #[.pointer (some ⟨r, 0, none⟩), .string ⟨#[10, 59, 125, 35]⟩] (grow (redrawn w1 k) os) fun e w'' => e = .returned (.bool (oneF [10, 59, 125, 35] s.data.toList (m : Int))) ∧ ∃ p : Regrown, w'' = grow (redrawn w1 p.d) p.os from fun k os => Calls.regrown_of (follows_m (H1.out.rd.stays (below_regrown w1 k os)) _))
  by_cases he : m = s.size
  · have g1 : ((m : Int) == (s.size : Int)) = true := by rw [beq_iff_eq]; omega
    have g1n : (m == s.size) = true := by rw [beq_iff_eq]; exact he
    have HE := Lib.hid (show endF s.data.toList m = true by unfold endF; rw [HL.out, g1n]; rfl)
    clear he
    refine wp_region_quiet_below (by kernel_rfl) (by kernel_rfl) ?_
    repeat (go_big_quiet_step (first | (with_reducible exact HF.out _ _)))
    refine wpQuiet_nil ?_
    rintro w5 ⟨⟨dq, osq⟩, rfl⟩
    have H5 := Lib.hid (H1.out.below (below_regrown w1 dq osq))
    generalize grow (redrawn w1 dq) osq = w5 at H5 ⊢
    clear k0 k1 HF
    go_wp2_with fail
    go_ret
    exact ⟨by rw [HE.out]; rfl, H5.out⟩
  · have g1 : ((m : Int) == (s.size : Int)) = false := by rw [beq_eq_false_iff_ne]; omega
    have g1n : (m == s.size) = false := by rw [beq_eq_false_iff_ne]; exact he
    have HE := Lib.hid (show endF s.data.toList m = oneF [10, 59, 125, 35] s.data.toList (m : Int) by unfold endF; rw [HL.out, g1n]; rfl)
    clear he
    refine wp_region_quiet_below (by kernel_rfl) (by kernel_rfl) ?_
    repeat (go_big_quiet_step (first | (with_reducible exact HF.out _ _)))
    refine wpQuiet_nil ?_
    rintro w5 ⟨⟨dq, osq⟩, rfl⟩
    have H5 := Lib.hid (H1.out.below (below_regrown w1 dq osq))
    generalize grow (redrawn w1 dq) osq = w5 at H5 ⊢
    clear k0 k1 HF
    go_wp2_with fail
    go_ret
    exact ⟨by rw [HE.out]; rfl, H5.out⟩
/-- What stands between addresses and a letter: whether it negates, and where it ends. -/
def ngF : Nat → List UInt8 → Nat → Bool → Bool × Nat
  | 0, _, n, a => (a, n)
  | k + 1, l, n, a => if oneF [33] l ((n + blk (l.drop n) : Nat) : Int) then ngF k l (n + blk (l.drop n) + 1) true else (a, n + blk (l.drop n))
set_option maxRecDepth 100000 in
set_option maxHeartbeats 8000000 in
theorem negation_m {s : ByteArray} {ext : Bool} {r b n : Nat} {c : CX} {w : World} (hz : s.size ≤ 2000) (hn : n ≤ s.size) (hrb : r ≠ b) (h : Rd s ext r (n : Int) w) (hc : Cm c b w) : Calls Try.prog 17 #[.pointer (some ⟨r, 0, none⟩), .pointer (some ⟨b, 0, none⟩)] w fun e w' => e = .returned (.tuple #[]) ∧ RC s ext r b ((ngF (s.size + 1) s.data.toList n c.nt).2 : Nat) { c with nt := (ngF (s.size + 1) s.data.toList n c.nt).1 } w w' := by
  obtain ⟨l, hl⟩ : ∃ l, l = s.data.toList := ⟨_, rfl⟩
  have HL := Lib.hid hl
  have hsz : l.length = s.size := by rw [hl]; simp
  have HSZ := Lib.hid hsz
  obtain ⟨G, hG⟩ : ∃ G, G = ngF (s.size + 1) l n c.nt := ⟨_, rfl⟩
  rw [← hl, ← hG]
  have HG := Lib.hid hG
  have HZ := Lib.hid hz
  have HN := Lib.hid hn
  have HR := Lib.hid (RC.start h hc)
  have HRB := Lib.hid hrb
  clear hl hsz hG hz hn h hc hrb
  go_enter Try.func17, Try.ntmps17
  go_wp2_with fail
  refine tk_wp_scope_again 0 (fun a' w' => ∃ (k m : Nat) (t : Bool), Hid (G = ngF k l m t ∧ l.length < k + m ∧ m ≤ l.length ∧ RC s ext r b (m : Int) { c with nt := t } w w') ∧ ∃ u : Nat → Value, a' = { tmps := #[.pointer (some ⟨r, 0, none⟩), .pointer (some ⟨b, 0, none⟩), u 2, u 3, u 4, u 5, u 6, u 7, u 8, u 9, u 10], defers := [] }) (fun _ w' => s.size + 1 - posOf r w') rfl ?_ ?_
  · intro hp
    have HP := Lib.hid hp
    clear hp
    go_wp2_with fail
    go_step3
    simp only [Exit.then]
    rename_i hK
    refine hK _ _ (HP.out _ _ ⟨s.size + 1, n, c.nt, Lib.hid ⟨HG.out, by have := HSZ.out; omega, by have := HSZ.out; have := HN.out; omega, HR.out⟩, fun _ => undef, rfl⟩)
  · rintro a' w1 ⟨k, n1, t, HJ, u, rfl⟩
    obtain ⟨k, rfl⟩ : ∃ k', k = k' + 1 := ⟨k - 1, by have := HJ.out.2.1; have := HJ.out.2.2.1; omega⟩
    obtain ⟨m, hm⟩ : ∃ m, m = n1 + blk (l.drop n1) := ⟨_, rfl⟩
    have HML := Lib.hid (show m ≤ l.length by rw [hm]; exact blk_in l n1 HJ.out.2.2.1)
    have HB := Lib.hid (show Calls Try.prog 11 #[.pointer (some ⟨r, 0, none⟩)] w1 (fun e w' => e = .returned (.tuple #[]) ∧ Mv s ext r (m : Int) w1 w') by
      have := blanks_m (n := (n1 : Int)) HZ.out HJ.out.2.2.2.rd
      rw [← HL.out, blanks_nat, ← hm] at this
      exact this)
    have HP1 := Lib.hid (posOf_rd HJ.out.2.2.2.rd)
    have hsk : G = if oneF [33] l (m : Int) then ngF k l (m + 1) true else (t, m) := by
      rw [HJ.out.1, hm]
      rfl
    have HLE := Lib.hid (show n1 ≤ m by rw [hm]; omega)
    clear hm
    go_wp2_with fail
    go_at_call 11
    with_reducible refine HB.out.mono ?_
    rintro e w2 ⟨rfl, hv2⟩
    have H2 := Lib.hid (HJ.out.2.2.2.move HRB.out hv2)
    have HT := Lib.hid fun (f : Bool) hf => take_m HZ.out hv2.rd ⟨#[33]⟩ (f := f) hf
    clear hv2
    cases h1 : oneF [33] l (m : Int) with
    | true =>
      rw [h1, if_pos rfl] at hsk
      have HK := Lib.hid hsk
      obtain ⟨_, _, _, hml⟩ := oneF_nat h1
      have HML2 := Lib.hid hml
      have HT1 := Lib.hid (HT.out true (by rw [← h1, HL.out]))
      clear h1 hsk hml HT
      go_wp2_with fail
      go_at_call 12
      with_reducible refine HT1.out.mono ?_
      rintro e w3 ⟨rfl, hv3⟩
      have H3 := Lib.hid (show RC s ext r b ((m + 1 : Nat) : Int) { c with nt := t } w w3 from H2.out.move HRB.out hv3)
      clear hv3
      have kc := H3.out.cm.cell 24 _ rfl
      have kf := H3.out.cm.free 24
      go_wp2_with fail
      go_step3
      have H4 := Lib.hid (show RC s ext r b ((m + 1 : Nat) : Int) { c with nt := true } w (w3.setCell ⟨b, 24, none⟩ (.bool true)) from H3.out.set HRB.out 24 _ _ (by kernel_rfl))
      have hp3 := posOf_rd H4.out.rd
      refine ⟨rfl, ⟨k, m + 1, true, Lib.hid ⟨HK.out, by have := HJ.out.2.1; have := HLE.out; omega, HML2.out, H4.out⟩, actF (by kernel_rfl)⟩, ?_⟩
      rw [hp3, HP1.out]
      have := HSZ.out; have := HML2.out; have := HLE.out
      omega
    | false =>
      rw [h1, if_neg (by decide)] at hsk
      have HK := Lib.hid hsk
      have HT1 := Lib.hid (HT.out false (by rw [← h1, HL.out]))
      clear h1 HT hsk
      go_wp2_with fail
      go_at_call 12
      with_reducible refine HT1.out.mono ?_
      rintro e w3 ⟨rfl, hv3⟩
      have H3 := Lib.hid (show RC s ext r b ((m : Nat) : Int) { c with nt := t } w w3 from H2.out.move HRB.out hv3)
      clear hv3
      go_wp2_with fail
      simp only [Exit.jump]
      exact end0 rfl rfl ⟨rfl, by rw [HK.out]; exact H3.out⟩
end Go.Proofs.Ytncbmdbfdjhkeaa

/-
  Package script: Parse, of scripts whose commands are of the letters that take nothing, and s. Condition: texts of at most 2000 bytes.
-/
import Derived.Test.YtncbmdbfdjhkeaaSt
namespace Go.Proofs.Ytncbmdbfdjhkeaa
open Go.RowKit Go.Deep Go.Sort

/-- Skipping goes on within the text. -/
theorem sk_le : ∀ (k : Nat) (l : List UInt8) (n : Nat), n ≤ l.length → n ≤ skF k l n ∧ skF k l n ≤ l.length
  | 0, l, n, h => ⟨Nat.le_refl _, h⟩
  | k + 1, l, n, h => by
    have hb := blk_in l n h
    unfold skF
    split
    · rename_i h1
      obtain ⟨_, _, _, hml⟩ := oneF_nat h1
      have := sk_le k l (n + blk (l.drop n) + 1) hml
      omega
    · split
      · rename_i h2
        obtain ⟨_, _, hle⟩ := rest_nat h2
        have := sk_le k l (n + blk (l.drop n) + (wrd endR (l.drop (n + blk (l.drop n)))).length) hle
        omega
      · omega
theorem pl_small (l : List UInt8) : (pl l).1 ≤ l.length + 1 ∧ (pl l).2 ≤ l.length + 1 := by
  have := cnt_le l
  unfold pl
  simp only
  omega
/-- What Parse leaves. -/
def PaA (ds : List Ds) (ok : Bool) (w : World) (e : Ending) (w' : World) : Prop := Below w.heap.size w w' ∧ ((ok = false ∧ e = .returned (.tuple #[.slice none 0 0, .complex .f64 0 0, .int .i64 143])) ∨ (ok = true ∧ ∃ (A : Option Addr) (cp : Nat) (cs : List CX), e = .returned (.tuple #[.slice A cs.length cp, .complex .f64 0 0, .int .i64 0]) ∧ RawAt w' A (cxV cs) ∧ AllD cs ds))
/-- What holds at the label. -/
structure PaJ (s : ByteArray) (ext : Bool) (r : Nat) (all : List Ds) (ok : Bool) (w W : World) (ds : List Ds) (cs : List CX) (f n : Nat) (v : Value) : Prop where
  scr : Scr ext s.data.toList cs.length n ds ok
  fn : f ≤ n ∧ n ≤ s.size
  rd : Rd s ext r (n : Int) W
  bel : Below w.heap.size w W
  own : OwnC W (r + 1) v cs
  max : MaxAt W
  all : ∃ dd, all = dd ++ ds ∧ AllD cs dd
set_option maxRecDepth 100000 in
set_option maxHeartbeats 16000000 in
theorem parse_m {s : ByteArray} {ext : Bool} {w : World} (hz : s.size ≤ 2000) (hM : MaxAt w) {ds : List Ds} {ok : Bool} (hS : Scr ext s.data.toList 0 0 ds ok) : Calls Try.prog 6 #[.string s, .bool ext] w (PaA ds ok w) := by
  unfold PaA
  have hsz : s.data.toList.length = s.size := by simp
  have HSZ := Lib.hid hsz
  have HZ := Lib.hid hz
  have HM := Lib.hid hM
  have HS := Lib.hid hS
  have hz2 : decide ((2000 : Int) < (s.size : Int)) = false := decide_eq_false (by omega)
  have hz2n : decide (2000 < s.size) = false := decide_eq_false (by omega)
  have HAT := Lib.hid (show ∀ W, Calls Try.prog 7 #[.string s, .int .i64 0] W (fun e w' => e = .returned (.tuple #[C (pl (s.data.toList.take 0)), .int .i64 0]) ∧ W = w') from fun W => at_in s 0 W (by omega) (Nat.zero_le _))
  unfold C at HAT
  clear hz hM hS hsz
  go_enter Try.func6, Try.ntmps6
  go_wp2_with fail
  refine tk_wp_scope_again 0 (fun a' w' => ∃ (ds' : List Ds) (cs : List CX) (f n : Nat) (v : Value), Hid (PaJ s ext w.heap.size ds ok w w' ds' cs f n v) ∧ ∃ u : Nat → Value, a' = { tmps := #[.string s, .bool ext, u 2, u 3, .slice none 0 0, .complex .f64 0 0, .int .i64 0, v, .pointer (some ⟨w.heap.size, 0, none⟩), .int .i64 (f : Int), .complex .f64 (rungOf (pl (s.data.toList.take f)).1) (rungOf (pl (s.data.toList.take f)).2), .int .i64 0, u 12, u 13, u 14, u 15, u 16, u 17, u 18, u 19, u 20, u 21, u 22, u 23, u 24, u 25, u 26, u 27, u 28, u 29, u 30, u 31, u 32, u 33, u 34, u 35, u 36, u 37, u 38, u 39, u 40, u 41, u 42, u 43, u 44, u 45, u 46, u 47, u 48, u 49, u 50, u 51, u 52, u 53, u 54], defers := [] }) (fun a' _ => 201 - slLen (a'.tmps.getD 7 undef)) rfl ?_ ?_
  · intro hp
    have HP := Lib.hid hp
    clear hp
    go_wp2_with fail
    go_at_call 7
    with_reducible refine (HAT.out _).mono ?_
    rintro e w1 ⟨rfl, rfl⟩
    go_wp2_with fail
    go_step3
    simp only [Exit.then]
    rename_i hK
    refine hK _ _ (HP.out _ _ ⟨ds, [], 0, 0, .slice none 0 0, Lib.hid ⟨HS.out, ⟨Nat.le_refl _, Nat.zero_le _⟩, heap_alloc_new w _, bW w _, OwnC.nil _ _, HM.out.below (bW w _), [], rfl, .nil⟩, actF (by kernel_rfl)⟩)
  · rintro a' w1 ⟨ds', cs, f, n, v, HJ, u, rfl⟩
    obtain ⟨A, cp, hv, hraw⟩ := HJ.out.own.raw
    subst hv
    have HRW := Lib.hid hraw
    clear hraw hz2 hz2n
    obtain ⟨r, hr⟩ : ∃ r, r = w.heap.size := ⟨_, rfl⟩
    have HRR := Lib.hid hr
    obtain ⟨m, hm⟩ : ∃ m, m = skF (s.size + 1) s.data.toList n := ⟨_, rfl⟩
    have HSK := Lib.hid (skip_m HZ.out HJ.out.fn.2 HJ.out.rd)
    rw [← hm, ← hr] at HSK
    have HMD := Lib.hid hm
    rw [← hr]
    clear hr hm
    go_wp2_with fail
    go_at_call 8
    with_reducible refine HSK.out.mono ?_
    rintro e w2 ⟨rfl, hv2⟩
    have HV2 := Lib.hid hv2
    have HB2 := Lib.hid (show Below w.heap.size w w2 from HJ.out.bel.trans (hv2.tu.below HJ.out.bel.size fun k hk => by rw [hk]; exact Nat.le_of_eq HRR.out.symm))
    have HOW2 := Lib.hid (HJ.out.own.turned hv2.tu fun k hk e => by
      have := (World.ownsRow.lt HJ.out.own k hk).1
      have := HRR.out
      omega)
    have HM2 := Lib.hid (HM.out.below HB2.out)
    have hsc := HJ.out.scr.parts
    rw [HSZ.out, ← HMD.out] at hsc
    have HSC := Lib.hid hsc
    have HFM := Lib.hid (show f ≤ m ∧ m ≤ s.size by
      have h1 := HJ.out.fn
      have h2 := sk_le (s.size + 1) s.data.toList n (by rw [HSZ.out]; exact h1.2)
      rw [← HMD.out, HSZ.out] at h2
      omega)
    have HMV := Lib.hid (show ∀ W, Calls Try.prog 9 #[.complex .f64 (rungOf (pl (s.data.toList.take f)).1) (rungOf (pl (s.data.toList.take f)).2), .string (s.extract f m)] W (fun e w' => e = .returned (.complex .f64 (rungOf (pl (s.data.toList.take m)).1) (rungOf (pl (s.data.toList.take m)).2)) ∧ w' = W) from fun W => by
      have h1 := pl_small (s.data.toList.take f)
      have h2 : (s.data.toList.take f).length ≤ s.size := by rw [List.length_take, HSZ.out]; omega
      have hz := HZ.out
      refine (moved_any (pl (s.data.toList.take f)) (s.extract f m) W (by simp only [ByteArray.size_extract]; omega) (by omega) (by omega)).mono fun e w' h => ?_
      obtain ⟨h3, h4⟩ := h
      refine ⟨?_, h4.symm⟩
      rw [h3, show (s.extract f m).data.toList = (s.data.toList.take m).drop f by simp [List.drop_take], mv_pl2, show s.data.toList.take f ++ (s.data.toList.take m).drop f = s.data.toList.take m by
        have := HFM.out.1
        rw [show s.data.toList.take f = (s.data.toList.take m).take f by rw [List.take_take, Nat.min_eq_left this], List.take_append_drop]]
      rfl)
    have HMQ := Lib.hid fun k => Calls.quiet_of_same (HMV.out (w2.drewN k))
    have k1 := HV2.out.rd.at
    have f1 : (0 : Int) ≤ (f : Int) := by omega
    have f2 : (f : Int) ≤ (m : Int) := by have := HFM.out; omega
    have f3 : (m : Int) ≤ (s.size : Int) := by have := HFM.out; omega
    have hsl : ∀ W : World, (Instr.slice 9 (.string s) (some (.int .i64 (f : Int))) (some (.int .i64 (m : Int))) none).run Try.prog W = .ok (.string (s.extract f m)) W := fun W => by
      have h := run_slice_string (P := Try.prog) W 9 s .i64 .i64 (f : Int) (m : Int) Try.underlying9 (by omega) (by omega) (by omega)
      rw [h, Int.toNat_natCast, Int.toNat_natCast]
    clear hsc HSK hv2
    go_upto_region 8 with fail
    go_quiet (exact HMQ.out _)
    have HV3 := Lib.hid (HV2.out.below (bD w2 nq))
    have HB3 := Lib.hid (HB2.out.trans ((bD w2 nq).mono HB2.out.size))
    have HOW3 := Lib.hid (HOW2.out.below (bD w2 nq))
    have HM3 := Lib.hid (HM2.out.below (bD w2 nq))
    obtain ⟨w3, hw3⟩ : ∃ w3, w3 = w2.drewN nq := ⟨_, rfl⟩
    rw [← hw3] at HV3 HB3 HOW3 HM3 ⊢
    clear hw3 k1 HMQ hsl HV2 HB2 HOW2 HM2 HMV
    have k1 := HV3.out.rd.at
    rcases HSC.out with ⟨hds, hok, hk, hme⟩ | ⟨hds, hok, hk, hml⟩ | ⟨m', d, ds2, hds, hml, hk, hmm, hm2, hcst, hscr⟩
    · have e0 : ((m : Int) == (s.size : Int)) = true := by rw [hme]; simp
      have e0n : (m == s.size) = true := by rw [hme]; simp
      have HQ := Lib.hid (And.intro hds hok)
      clear hds hok hk hme f1 f2 f3 HSC
      go_wp2_with fail
      simp only [Exit.jump]
      obtain ⟨hds, hok⟩ := HQ.out
      obtain ⟨dd, hall, had⟩ := HJ.out.all
      subst hds
      rw [List.append_nil] at hall
      subst hall
      obtain ⟨A3, c3, hv3, hraw3⟩ := HOW3.out.raw
      injection hv3 with e1 e2 e3
      subst e1
      refine bodyPost_ret (v := .tuple #[.slice A cs.length cp, .complex .f64 0 0, .int .i64 0]) (by simp [results, Try.results6, go_sem]) rfl ⟨HB3.out, .inr ⟨hok, A, cp, cs, rfl, hraw3, had⟩⟩
    · have e0 : ((m : Int) == (s.size : Int)) = false := by rw [beq_eq_false_iff_ne]; omega
      have e0n : (m == s.size) = false := by rw [beq_eq_false_iff_ne]; omega
      have e1 : ((cs.length : Int) == 200) = true := by rw [hk]; rfl
      have e1n : (cs.length == 200) = true := by rw [hk]; rfl
      have HQ := Lib.hid hok
      clear hds hok hk hml f1 f2 f3 HSC
      go_wp2_with fail
      simp only [Exit.jump]
      refine bodyPost_ret (v := .tuple #[.slice none 0 0, .complex .f64 0 0, .int .i64 143]) (by simp [results, Try.results6, go_sem]) rfl ⟨HB3.out, .inl ⟨HQ.out, rfl⟩⟩
    · have e0 : ((m : Int) == (s.size : Int)) = false := by rw [beq_eq_false_iff_ne]; omega
      have e0n : (m == s.size) = false := by rw [beq_eq_false_iff_ne]; omega
      have e1 : ((cs.length : Int) == 200) = false := by rw [beq_eq_false_iff_ne]; omega
      have e1n : (cs.length == 200) = false := by rw [beq_eq_false_iff_ne]; omega
      have HQ := Lib.hid (And.intro hds (And.intro hml (And.intro hk (And.intro hmm (And.intro hm2 (And.intro hcst hscr))))))
      clear hds hml hk hmm hm2 hcst hscr f1 f2 f3 HSC
      go_upto_region 14 with (first | (refine wpList_build_zero rfl (.tmp 46) rfl rfl ?_) | (refine wpList_alloc_cm rfl rfl ?_; intro Z hZ; have HZZ := Lib.hid hZ; clear hZ) | (refine wpList_put_cm rfl (.tmp 12) (.tmp 47) rfl (c := CX.zero (rungOf (pl (s.data.toList.take m)).1) (rungOf (pl (s.data.toList.take m)).2)) rfl rfl rfl HZZ.out ?_; intro w4 hc4 hb4; have HC4 := Lib.hid hc4; have HB4 := Lib.hid hb4; clear hc4 hb4))
      have HRB := Lib.hid (show r < w3.heap.size from HV3.out.rd.lt)
      have HCMD := Lib.hid (cmd_any HZ.out HFM.out.2 (HM3.out.below HB4.out) (Nat.ne_of_lt HRB.out) (HV3.out.rd.stays HB4.out) HC4.out HQ.out.2.2.2.2.2.1)
      go_wp2_with fail
      go_at_call 10
      with_reducible refine HCMD.out.mono ?_
      rintro e w5 ⟨rfl, c', htv, hrc, hcd⟩
      have HRC := Lib.hid hrc
      clear hrc
      have HOW4 := Lib.hid (HOW3.out.below HB4.out)
      have HOW5 := Lib.hid (HOW4.out.turned HRC.out.tu fun k hk e => by
        have h1 := World.ownsRow.lt HOW3.out k hk
        have h2 := HRR.out
        rcases e with e | e <;> omega)
      have HB5 := Lib.hid (show Below w.heap.size w w5 from HB3.out.trans ((HB4.out.mono HB3.out.size).trans (HRC.out.tu.below (Nat.le_trans HB3.out.size HB4.out.size) fun k hk => by
        have h1 := HB3.out.size
        have h2 := HRR.out
        rcases hk with hk | hk <;> omega)))
      have HCD := Lib.hid (And.intro htv hcd)
      clear htv hcd
      have hlen : cs.length + 1 ≤ 1073741824 := by have := HQ.out.2.2.1; omega
      have hbs : w.heap.size + 1 ≤ w5.heap.size := by have := HRC.out.rd.lt; have := HRR.out; omega
      go_wp2_with (first | (refine wpList_load_row rfl 42 (.tmp 12) rfl w3.heap.size rfl _ c'.cells.toArray _ _ HRC.out.cm Try.underlying42 rfl (by rw [size_cmd, List.size_toArray, CX.len]) ?_) | (refine wpList_lit_one rfl (.tmp 52) rfl (c := c') rfl ?_; intro w6 g hg hr6 hb6; have HR6 := Lib.hid hr6; have HB6 := Lib.hid hb6; clear hg hr6 hb6) | (refine wpList_append_cmd 54 c' HCD.out.1 (HOW5.out.below HB6.out) HR6.out rfl rfl hlen (Nat.le_trans hbs HB6.out.size) ?_; intro v7 w7 ho7 ht7 hk7; have HO7 := Lib.hid ho7; have HT7 := Lib.hid ht7; clear ho7 ht7 hk7))
      go_step3
      obtain ⟨A7, c7, hv7, _⟩ := HO7.out.raw
      obtain ⟨dd, hall, had⟩ := HJ.out.all
      obtain ⟨hds, hml, hk, hmm, hm2, hcst, hscr⟩ := HQ.out
      have hnr : ¬ (fun j => Value.ownBlock (.slice A cs.length cp) = some j) r := fun h => by
        have h1 := World.ownsRow.lt HOW3.out r h
        have h2 := HRR.out
        omega
      have hB6 := HB5.out.trans (HB6.out.mono HB5.out.size)
      have hB7 : Below w.heap.size w w7 := hB6.trans (HT7.out.below hB6.size fun k hk => by
        have h1 := World.ownsRow.lt HOW3.out k hk
        omega)
      refine ⟨rfl, ⟨ds2, cs ++ [c'], m, m', v7, Lib.hid ⟨by rw [List.length_append]; exact hscr, ⟨hmm, hm2⟩, (HRC.out.rd.stays HB6.out).turned HT7.out hnr, hB7, by rw [HRR.out]; exact HO7.out, HM.out.below hB7, dd ++ [d], by rw [hall, hds, List.append_assoc]; rfl, had.snoc HCD.out.2⟩, actF (by kernel_rfl)⟩, ?_⟩
      rw [hv7]
      have h9 : (cs ++ [c']).length = cs.length + 1 := by simp
      rw [h9]
      show 201 - (cs.length + 1) < 201 - cs.length
      omega
end Go.Proofs.Ytncbmdbfdjhkeaa

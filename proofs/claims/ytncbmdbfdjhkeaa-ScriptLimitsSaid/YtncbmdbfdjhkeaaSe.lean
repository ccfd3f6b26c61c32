/-
  Package script's reader: what may stand between commands is skipped; what may follow one. Condition: texts of at most 2000 bytes.
-/
import Derived.Test.YtncbmdbfdjhkeaaSd
namespace Go.Proofs.Ytncbmdbfdjhkeaa
open Go.RowKit Go.Deep Go.Sort

/-- Where reading goes on behind blanks, line feeds, semicolons and comments. -/
def skF : Nat → List UInt8 → Nat → Nat
  | 0, _, n => n
  | k + 1, l, n => if oneF [10, 59] l ((n + blk (l.drop n) : Nat) : Int) then skF k l (n + blk (l.drop n) + 1) else if oneF [35] l ((n + blk (l.drop n) : Nat) : Int) then skF k l (n + blk (l.drop n) + (wrd endR (l.drop (n + blk (l.drop n)))).length) else n + blk (l.drop n)
theorem blanks_nat (l : List UInt8) (n : Nat) : blanksF l (n : Int) = ((n + blk (l.drop n) : Nat) : Int) := by
  unfold blanksF
  rw [if_pos (by omega), Int.toNat_natCast]
  omega
theorem blk_in (l : List UInt8) (n : Nat) (h : n ≤ l.length) : n + blk (l.drop n) ≤ l.length := by
  have := blk_le (l.drop n)
  rw [List.length_drop] at this
  omega
theorem oneF_nat {s l : List UInt8} {n : Nat} (h : oneF s l (n : Int) = true) : ∃ c, l[n]? = some c ∧ s.contains c = true ∧ n < l.length := by
  obtain ⟨_, h1, c, hc, hs⟩ := oneF_yes h
  exact ⟨c, by simpa using hc, hs, by omega⟩
/-- A comment's end. -/
theorem rest_nat {l : List UInt8} {m : Nat} (h : oneF [35] l (m : Int) = true) : (upF endR l (m : Int)).2 = ((m + (wrd endR (l.drop m)).length : Nat) : Int) ∧ 1 ≤ (wrd endR (l.drop m)).length ∧ m + (wrd endR (l.drop m)).length ≤ l.length := by
  obtain ⟨c, hc, hs, hl⟩ := oneF_nat h
  have hc35 : c = 35 := by
    simp at hs
    exact hs
  subst hc35
  have hd := drop_at hc
  have hb : blk (l.drop m) = 0 := by rw [hd]; exact blk_no (by decide)
  have hw : wrd endR (l.drop m) = 35 :: wrd endR (l.drop (m + 1)) := by
    rw [hd]
    unfold wrd
    rw [List.takeWhile_cons]
    rfl
  have h1 : (wrd endR (l.drop m)).length ≤ (l.drop m).length := (List.takeWhile_sublist _).length_le
  rw [List.length_drop] at h1
  refine ⟨?_, by rw [hw]; simp, by omega⟩
  unfold upF
  rw [if_pos ⟨by omega, by omega⟩, Int.toNat_natCast, hb]
  simp
def posOf (r : Nat) (w : World) : Nat := match w.cell? ⟨r, 1, none⟩ with
  | some (.int _ n) => n.toNat
  | _ => 0
theorem posOf_rd {s : ByteArray} {ext : Bool} {r n : Nat} {w : World} (h : Rd s ext r (n : Int) w) : posOf r w = n := by
  unfold posOf
  rw [h.at]
  rfl
set_option maxRecDepth 100000 in
set_option maxHeartbeats 8000000 in
theorem skip_m {s : ByteArray} {ext : Bool} {r n : Nat} {w : World} (hz : s.size ≤ 2000) (hn : n ≤ s.size) (h : Rd s ext r (n : Int) w) : Calls Try.prog 8 #[.pointer (some ⟨r, 0, none⟩)] w fun e w' => e = .returned (.tuple #[]) ∧ Mv s ext r (skF (s.size + 1) s.data.toList n : Nat) w w' := by
  obtain ⟨l, hl⟩ : ∃ l, l = s.data.toList := ⟨_, rfl⟩
  have HL := Lib.hid hl
  have hsz : l.length = s.size := by rw [hl]; simp
  have HSZ := Lib.hid hsz
  obtain ⟨G, hG⟩ : ∃ G, G = skF (s.size + 1) l n := ⟨_, rfl⟩
  rw [← hl, ← hG]
  have HG := Lib.hid hG
  have HZ := Lib.hid hz
  have HN := Lib.hid hn
  have HR := Lib.hid h
  clear hl hsz hG hz hn h
  go_enter Try.func8, Try.ntmps8
  go_wp2_with fail
  refine tk_wp_scope_again 0 (fun a' w' => ∃ (k m : Nat), Hid (G = skF k l m ∧ l.length < k + m ∧ m ≤ l.length ∧ Mv s ext r (m : Int) w w') ∧ ∃ u : Nat → Value, a' = { tmps := #[.pointer (some ⟨r, 0, none⟩), u 1, u 2, u 3, u 4, u 5, u 6, u 7, u 8, u 9, u 10, u 11, u 12, u 13, u 14, u 15, u 16, u 17, u 18, u 19, u 20, u 21, u 22], defers := [] }) (fun _ w' => s.size + 1 - posOf r w') rfl ?_ ?_
  · intro hp
    have HP := Lib.hid hp
    clear hp
    go_wp2_with fail
    go_step3
    simp only [Exit.then]
    rename_i hK
    refine hK _ _ (HP.out _ _ ⟨s.size + 1, n, Lib.hid ⟨HG.out, by have := HSZ.out; omega, by have := HSZ.out; have := HN.out; omega, Mv.same HR.out (Below.refl _ _)⟩, fun _ => undef, rfl⟩)
  · rintro a' w1 ⟨k, n1, HJ, u, rfl⟩
    obtain ⟨k, rfl⟩ : ∃ k', k = k' + 1 := ⟨k - 1, by have := HJ.out.2.1; have := HJ.out.2.2.1; omega⟩
    obtain ⟨m, hm⟩ : ∃ m, m = n1 + blk (l.drop n1) := ⟨_, rfl⟩
    have HM := Lib.hid hm
    have HML := Lib.hid (show m ≤ l.length by rw [hm]; exact blk_in l n1 HJ.out.2.2.1)
    have HB := Lib.hid (show Calls Try.prog 11 #[.pointer (some ⟨r, 0, none⟩)] w1 (fun e w' => e = .returned (.tuple #[]) ∧ Mv s ext r (m : Int) w1 w') by
      have := blanks_m (n := (n1 : Int)) HZ.out HJ.out.2.2.2.rd
      rw [← HL.out, blanks_nat, ← hm] at this
      exact this)
    have HP1 := Lib.hid (posOf_rd HJ.out.2.2.2.rd)
    have hsk : G = if oneF [10, 59] l (m : Int) then skF k l (m + 1) else if oneF [35] l (m : Int) then skF k l (m + (wrd endR (l.drop m)).length) else m := by
      rw [HJ.out.1, hm]
      rfl
    have HLE := Lib.hid (show n1 ≤ m by rw [hm]; omega)
    clear hm
    go_wp2_with fail
    go_at_call 11
    with_reducible refine HB.out.mono ?_
    rintro e w2 ⟨rfl, hv2⟩
    have H2 := Lib.hid (HJ.out.2.2.2.trans hv2)
    have HT := Lib.hid fun (f : Bool) hf => take_m HZ.out hv2.rd ⟨#[10, 59]⟩ (f := f) hf
    have HR2 := Lib.hid hv2.rd
    clear hv2
    cases h1 : oneF [10, 59] l (m : Int) with
    | true =>
      rw [h1, if_pos rfl] at hsk
      have HK := Lib.hid hsk
      obtain ⟨_, _, _, hml⟩ := oneF_nat h1
      have HML2 := Lib.hid hml
      have HT1 := Lib.hid (HT.out true (by rw [← h1, HL.out]))
      clear h1 hsk hml HT
      go_wp2_with fail
      go_at_call 12
      with_reducible refine HT1.out.mono ?_
      rintro e w3 ⟨rfl, hv3⟩
      have H3 := Lib.hid (show Mv s ext r ((m + 1 : Nat) : Int) w w3 from H2.out.trans hv3)
      clear hv3
      go_wp2_with fail
      go_step3
      have hp3 := posOf_rd H3.out.rd
      refine ⟨rfl, ⟨k, m + 1, Lib.hid ⟨HK.out, by have := HJ.out.2.1; have := HLE.out; omega, HML2.out, H3.out⟩, actF (by kernel_rfl)⟩, ?_⟩
      rw [hp3, HP1.out]
      have := HSZ.out; have := HML2.out; have := HLE.out
      omega
    | false =>
      rw [h1, if_neg (by decide)] at hsk
      have HT1 := Lib.hid (HT.out false (by rw [← h1, HL.out]))
      clear h1 HT
      go_wp2_with fail
      go_at_call 12
      with_reducible refine HT1.out.mono ?_
      rintro e w3 ⟨rfl, hv3⟩
      have H3 := Lib.hid (show Mv s ext r ((m : Nat) : Int) w w3 from H2.out.trans hv3)
      have HF := Lib.hid (show Calls Try.prog 13 #[.pointer (some ⟨r, 0, none⟩), .string ⟨#[35]⟩] w3 (fun e w' => e = .returned (.bool (oneF [35] l (m : Int))) ∧ Below w3.heap.size w3 w') by
        have := follows_m (n := m) hv3.rd ⟨#[35]⟩
        rw [← HL.out] at this
        exact this)
      clear hv3
      cases h2 : oneF [35] l (m : Int) with
      | false =>
        rw [h2, if_neg (by decide)] at hsk
        rw [h2] at HF
        have HK := Lib.hid hsk
        clear h2 hsk
        go_wp2_with fail
        go_at_call 13
        with_reducible refine HF.out.mono ?_
        rintro e w4 ⟨rfl, hb4⟩
        have H4 := Lib.hid (H3.out.below hb4)
        clear hb4
        go_wp2_with fail
        simp only [Exit.jump]
        exact end0 rfl rfl ⟨rfl, by rw [HK.out]; exact H4.out⟩
      | true =>
        rw [h2, if_pos rfl] at hsk
        rw [h2] at HF
        obtain ⟨hu, h1l, hle⟩ := rest_nat h2
        obtain ⟨q, hq⟩ : ∃ q, q = m + (wrd endR (l.drop m)).length := ⟨_, rfl⟩
        rw [← hq] at hsk hu hle
        have HK := Lib.hid hsk
        have HQ := Lib.hid (show m < q ∧ q ≤ l.length by omega)
        obtain ⟨X, hX⟩ : ∃ X, X = txt (upF endR l (m : Int)).1 := ⟨_, rfl⟩
        have HRS := Lib.hid (show ∀ W, Calls Try.prog 14 #[.string s, .int .i64 (m : Int)] W (fun e w' => e = .returned (.tuple #[.string X, .int .i64 (q : Int)]) ∧ Below W.heap.size W w') from fun W => by
          have := rest_is s (by have := HZ.out; omega) (m : Int) W
          rw [← HL.out] at this
          unfold UpAns UpV at this
          rw [hu, ← hX] at this
          exact this)
        clear h2 hsk hu h1l hle hq hX
        go_wp2_with fail
        go_at_call 13
        with_reducible refine HF.out.mono ?_
        rintro e w4 ⟨rfl, hb4⟩
        have H4 := Lib.hid (H3.out.below hb4)
        clear hb4 HF
        have k0 := H4.out.rd.text
        have k1 := H4.out.rd.at
        go_upto_region 3 with fail
        refine wp_region_plan (fun wx => wx.cell? ⟨r, 0, none⟩ = some (.string s) ∧ wx.cell? ⟨r, 1, none⟩ = some (.int .i64 (m : Int))) [.p 0, .p 1, .p 2, .p 3, .p 5, .p 6, .p 7, .l 4, .l 8, .o 9, .p 10, .p 11, .p 12, .p 13, .p 14, .o 15] [15] (by kernel_rfl) (by kernel_rfl) (by kernel_rfl) (by repeat (first | exact pq_body | refine pq_then ?_ | refine pq_jump ?_ | refine pq_block ?_)) (by kernel_rfl) ?_
        iterate 7
          refine plan_p (v := ?_) rfl (by rfl) (fun wx => ?_) ?_
          rotate_left
          · go_simp
            try with_reducible rfl
          simp only [Act.put, List.setIfInBounds_toArray]
        iterate 2
          refine plan_l (v := ?_) ⟨k0, k1⟩ rfl (by rfl) (fun wx hSw => ?_) ?_
          rotate_left
          · obtain ⟨u0, u1⟩ := hSw
            go_simp
            try with_reducible rfl
          simp only [Act.put]
        refine plan_o rfl (fun K hK => ?_)
        go_simp
        refine (HRS.out _).mono ?_
        rintro e w5 ⟨rfl, hb5⟩
        refine hK _ _ ⟨fun _ hx => ⟨(hb5.cell (block_lt_of_cell hx.1)).trans hx.1, (hb5.cell (block_lt_of_cell hx.2)).trans hx.2⟩, ?_⟩
        clear hK K
        try simp only [Act.put, List.setIfInBounds_toArray, List.set_cons_zero, List.set_cons_succ]
        have H5 := Lib.hid (H4.out.below ((bD w4 1).trans hb5))
        clear hb5 k0 k1
        have k1 := H5.out.rd.at
        have kf := H5.out.rd.free 1
        iterate 5
          refine plan_p (v := ?_) rfl (by rfl) (fun wx => ?_) ?_
          rotate_left
          · go_simp
            try with_reducible rfl
          simp only [Act.put, List.setIfInBounds_toArray]
        refine plan_o rfl (fun K hK => ?_)
        go_simp
        refine hK _ _ ⟨fun h => absurd h (by decide), ?_⟩
        clear hK K
        try simp only [Act.put, List.setIfInBounds_toArray, List.set_cons_zero, List.set_cons_succ]
        have H6 := Lib.hid (H5.out.put (q : Int))
        obtain ⟨w6, hw6⟩ : ∃ w6, w6 = w5.setCell ⟨r, 1, none⟩ (.int .i64 (q : Int)) := ⟨_, rfl⟩
        rw [← hw6] at H6 ⊢
        clear hw6 k1 kf
        refine plan_end ?_
        go_wp2_with fail
        go_step3
        have hp3 := posOf_rd H6.out.rd
        refine ⟨rfl, ⟨k, q, Lib.hid ⟨HK.out, by have := HJ.out.2.1; have := HLE.out; have := HQ.out; omega, HQ.out.2, H6.out⟩, actF (by kernel_rfl)⟩, ?_⟩
        rw [hp3, HP1.out]
        have := HSZ.out; have := HQ.out; have := HLE.out
        omega
end Go.Proofs.Ytncbmdbfdjhkeaa

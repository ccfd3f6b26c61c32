/-
  PatternPlain's walk. Conditions: the world holds what strings.Index asks; a text that a machine holds.
-/
import Derived.Test.YtbehbbmhkkidfaaPplw
import Derived.Test.YtbehbbmhkkidfaaPalive
import Derived.Test.YtbehbbmhkkidfaaCturned
import Derived.Test.YtbehbbmhkkidfaaCref
namespace Go.Proofs.Ytbehbbmhkkidfaa
open Go.RowKit Go.Deep Go.Sort

/-- Letters' nodes in a row, as they lie. -/
def OneRow (w : World) (b o : Nat) (s : ByteArray) : Prop := ∀ (i : Nat) (h : i < s.size), ∃ A c,
  w.cell? ⟨b, o + i * 9, none⟩ = some (.int .i64 1) ∧ w.cell? ⟨b, o + i * 9 + 1, none⟩ = some (.int .u64 (withS noS s[i].toNat s[i].toNat 0)) ∧ w.cell? ⟨b, o + i * 9 + 2, none⟩ = some (.int .u64 (withS noS s[i].toNat s[i].toNat 1)) ∧ w.cell? ⟨b, o + i * 9 + 3, none⟩ = some (.int .u64 (withS noS s[i].toNat s[i].toNat 2)) ∧ w.cell? ⟨b, o + i * 9 + 4, none⟩ = some (.int .u64 (withS noS s[i].toNat s[i].toNat 3)) ∧ w.cell? ⟨b, o + i * 9 + 8, none⟩ = some (.slice A 0 c)
theorem OneRow.below {w w' : World} {b o : Nat} {s : ByteArray} (h : OneRow w b o s) (hb : Below w.heap.size w w') : OneRow w' b o s := fun i hi => by
  obtain ⟨A, c, h0, h1, h2, h3, h4, h8⟩ := h i hi
  have hl : b < w.heap.size := World.block_lt_of_cell? w _ h0
  exact ⟨A, c, (hb.cell hl).trans h0, (hb.cell hl).trans h1, (hb.cell hl).trans h2, (hb.cell hl).trans h3, (hb.cell hl).trans h4, (hb.cell hl).trans h8⟩
theorem with_same {T : Nat → Nat} {c : Nat} (h : T = withS noS c c) (hc : c < 256) (W : World) : Calls Try.prog 9 #[.agg #[.int .u64 0, .int .u64 0, .int .u64 0, .int .u64 0], .int .u8 (c : Int), .int .u8 (c : Int)] W fun e w' => e = .returned (.agg #[.int .u64 (T 0), .int .u64 (T 1), .int .u64 (T 2), .int .u64 (T 3)]) ∧ Below W.heap.size W w' := by
  subst h
  exact rwith_is noS c c OkS.no hc hc W
theorem byte_at {s : ByteArray} {i : Nat} (h : i < s.size) : (s.data.toList.map oneN)[i]? = some (oneN s[i]) := by
  rw [List.getElem?_map, List.getElem?_eq_getElem (by simpa using h)]
  rfl
theorem one_row {S : Nat → Prop} {w : World} {s : ByteArray} {b o : Nat} {xs : List NV} (hl : xs.length = s.size) (hr : w.rangeAt b o (nsV xs)) (hk : ∀ (i : Nat) (t : PN) (x : NV), (s.data.toList.map oneN)[i]? = some t → xs[i]? = some x → IsP S w t x) : OneRow w b o s := fun i hi => by
  have hx : xs[i]? = some (xs[i]'(by omega)) := List.getElem?_eq_getElem _
  have hp := hk i _ _ (byte_at hi) hx
  generalize xs[i]'(by omega) = x at hx hp
  have hg : ∀ (j : Nat) (v : Value), x.cells[j]? = some v → w.cell? ⟨b, o + i * 9 + j, none⟩ = some v := fun j v hv => by
    rw [Nat.add_assoc]
    exact hr _ _ (nsV_at i x hx j v hv)
  unfold oneN at hp
  cases hp with
  | mk ys hyl hyc hyr hyk => exact ⟨_, _, hg 0 _ rfl, hg 1 _ rfl, hg 2 _ rfl, hg 3 _ rfl, hg 4 _ rfl, hg 8 _ rfl⟩
theorem list_one {l : List UInt8} (h : l.length = 1) : ∃ c, l = [c] := List.length_eq_one_iff.1 h
theorem join_two {k : Int} {l : List PN} (h : l.length ≠ 1) : joinK k l = .mk k noS 0 0 0 l := by
  match l, h with
  | [], _ => rfl
  | [x], h => exact absurd rfl h
  | x :: y :: r, _ => rfl
theorem head_range {S : Nat → Prop} {w : World} {A : Option Addr} {xs : List NV} (h : RawOff S w A (nsV xs)) (h0 : xs ≠ []) : ∃ b o, A = some ⟨b, o, none⟩ ∧ w.rangeAt b o (nsV xs) := by
  rcases h with h | ⟨b, o, e, _, hr⟩
  · cases xs with
    | nil => exact absurd rfl h0
    | cons a r => cases h
  · exact ⟨b, o, e, hr⟩
set_option maxRecDepth 100000 in
set_option maxHeartbeats 2000000 in
theorem plain_any (s : ByteArray) (ext : Bool) (hz : s.size < 140737488355328) (w : World) (hM : MaxAt w) : Calls Try.prog 3 #[.string s, .bool ext] w (TrueC w) := by
  have HA := Lib.hid fun (W : World) (hW : Below w.heap.size w W) => alive_is W (hM.below hW)
  have HP := Lib.hid (plain_is s hz w)
  have HPP := Lib.hid (parse_of s ext w hM)
  clear hM hz
  go_enter Try.func3, Try.ntmps3
  go_wp2_with fail
  go_at_call 6
  refine HP.out.mono ?_
  rintro e w0 ⟨b, rfl, hw0, hpl⟩
  subst w0
  cases b with
  | false =>
    clear hpl
    go_wp2_with fail
    go_at_call 7
    refine (HA.out _ (Below.refl _ _)).mono ?_
    rintro e w1 ⟨rfl, hb⟩
    have HB := Lib.hid hb
    clear hb
    go_wp2_with fail
    go_ret
    exact ⟨rfl, HB.out⟩
  | true =>
    obtain ⟨hall, hz1, hz2⟩ := hpl rfl
    have hlen : s.data.toList.length = s.size := by simp
    have hpp := parse_plain bkOf ext hall (by intro h; rw [h] at hlen; simp at hlen; omega) (by omega)
    rw [hpp] at HPP
    have HZ2 := Lib.hid hz2
    have HZ1 := Lib.hid hz1
    clear hpl hpp hall
    go_wp2_with fail
    go_at_call 8
    refine HPP.out.mono ?_
    rintro e w1 ⟨y, rfl, hy, hb1⟩
    have HB1 := Lib.hid hb1
    rw [NV.v_eq]
    by_cases h1 : s.size = 1
    · obtain ⟨c, hc⟩ := list_one (l := s.data.toList) (by omega)
      have hcs : ∀ h : 0 < s.size, s[0] = c := fun h => by
        have : s.data.toList[0]? = some c := by rw [hc]; rfl
        rw [List.getElem?_eq_getElem (by simpa using h)] at this
        injection this
      rw [hc] at hy
      simp only [List.map_cons, List.map_nil, joinK] at hy
      unfold oneN at hy
      obtain ⟨T, hT⟩ : ∃ T, T = withS noS c.toNat c.toNat := ⟨_, rfl⟩
      rw [← hT] at hy
      have hor : ∀ (W : World) (b : Nat) (A : Option Addr) (n : Nat), W.rangeAt b 0 [.int .i64 1, .int .u64 (T 0), .int .u64 (T 1), .int .u64 (T 2), .int .u64 (T 3), .int .i64 0, .int .i64 0, .int .i64 0, .slice A 0 n] → OneRow W b 0 s := fun W b A n hr i hi => by
        have e : i = 0 := by omega
        subst e
        have e2 := hcs hi
        rw [e2, ← hT]
        exact ⟨A, n, hr 0 _ rfl, hr 1 _ rfl, hr 2 _ rfl, hr 3 _ rfl, hr 4 _ rfl, hr 8 _ rfl⟩
      cases hy with
      | mk xs hl hcp hr hk =>
        have d1 : ((s.size : Int) == 1) = true := by rw [h1]; rfl
        have g1 : ((1 : Int) != (s.size : Int)) = false := by rw [h1]; rfl
        rename_i A9 c9
        obtain ⟨W3, hW3⟩ : ∃ W3, W3 = (w1.alloc (.cells #[.int .i64 1, .int .u64 (T 0), .int .u64 (T 1), .int .u64 (T 2), .int .u64 (T 3), .int .i64 0, .int .i64 0, .int .i64 0, .slice A9 0 c9] 30)).alloc (.cells #[.int .i64 1, .int .u64 (T 0), .int .u64 (T 1), .int .u64 (T 2), .int .u64 (T 3), .int .i64 0, .int .i64 0, .int .i64 0, .slice A9 0 c9] 30) := ⟨_, rfl⟩
        have HOR := Lib.hid (hor W3 (w1.heap.size + 1) A9 c9 (by
          rw [hW3]
          intro j v hv
          match j, hv with
          | 0, hv => simp at hv; subst hv; simp [go_sem]
          | 1, hv => simp at hv; subst hv; simp [go_sem]
          | 2, hv => simp at hv; subst hv; simp [go_sem]
          | 3, hv => simp at hv; subst hv; simp [go_sem]
          | 4, hv => simp at hv; subst hv; simp [go_sem]
          | 5, hv => simp at hv; subst hv; simp [go_sem]
          | 6, hv => simp at hv; subst hv; simp [go_sem]
          | 7, hv => simp at hv; subst hv; simp [go_sem]
          | 8, hv => simp at hv; subst hv; simp [go_sem]
          | j + 9, hv => simp at hv))
        have HBW := Lib.hid (show Below w.heap.size w W3 by rw [hW3]; exact (HB1.out.alloc HB1.out.size _).alloc (by have := HB1.out.size; rw [World.size_alloc]; omega) _)
        have HS1 := Lib.hid h1
        clear hor hcs hT hc hl hcp hr hk hb1 hlen hz1 hz2 h1
        simp only [List.length_nil]
        go_wp2_with fail
        rw [← hW3]
        clear hW3
        go_wp2_with fail
        go_loopw [9] (fun iv wr => ∃ i : Nat, iv = .int .i64 (i : Int) ∧ i ≤ s.size ∧ Below W3.heap.size W3 wr) (fun iv _ => s.size - (intOf iv).toNat)
        case atStart => exact ⟨0, rfl, Nat.zero_le _, Below.refl _ _⟩
        case round =>
          obtain ⟨i, rfl, hi, hbr⟩ := hrel
          have HBR := Lib.hid hbr
          by_cases hlt : i < s.size
          · have hiI : (i : Int) < (s.size : Int) := by omega
            have hi0 : (0 : Int) ≤ (i : Int) := by omega
            have hi4 : i < 200 := by have := HZ2.out; omega
            have hwr : wrap64 ((i : Int) + 1) = (i : Int) + 1 := IntWalk.wrap64_in _ (by omega)
            obtain ⟨Ak, ck, r0, r1, r2, r3, r4, r8⟩ := HOR.out.below hbr i hlt
            rw [Nat.zero_add] at r0 r1 r2 r3 r4 r8
            have hi1 : (i : Int) < 1 := by have := HS1.out; omega
            obtain ⟨T, hT⟩ : ∃ T, T = withS noS s[i].toNat s[i].toNat := ⟨_, rfl⟩
            rw [← hT] at r1 r2 r3 r4
            have HWT := Lib.hid (with_same hT (UInt8.toNat_lt s[i]))
            have q0 := cell_regrown r0
            have q1 := cell_regrown r1
            have q2 := cell_regrown r2
            have q3 := cell_regrown r3
            have q4 := cell_regrown r4
            have q8 := cell_regrown r8
            have RW := Lib.hid (RG.of HWT.out wr)
            unfold RG at RW
            have ES := eq_self T
            clear hT hbr
            go_upto_region 17 with fail
            go_cut [74] from 38 to 74 (fun t wx => t = .bool false ∧ Below wr.heap.size wr wx)
            case first =>
              refine wp_region_quiet_below (by kernel_rfl) (by kernel_rfl) ?_
              repeat (go_big_quiet_step (first | (with_reducible exact RW.out _ _)))
              refine wpQuiet_nil ?_
              rintro w5 ⟨⟨dq, osq⟩, rfl⟩
              have hb5 := below_regrown wr dq osq
              generalize grow (redrawn wr dq) osq = w5 at hb5 ⊢
              clear q0 q1 q2 q3 q4 q8 ES
              go_wp2_with fail
              go_meet
              case rel => exact ⟨rfl, hb5⟩
            obtain ⟨rfl, hbc⟩ := hcut
            have HBC := Lib.hid (HBR.out.trans (hbc.mono HBR.out.size))
            clear q0 q1 q2 q3 q4 q8 ES hbc
            go_wp2_with fail
            go_roundw
            case rel => exact ⟨i + 1, by go_num, hlt, HBC.out⟩
            case measure => simp only [intOf]; exact msr_lt hlt
          · have he : i = s.size := by omega
            subst he
            have hiI : ¬ (s.size : Int) < (s.size : Int) := by omega
            have HBE := Lib.hid (HBW.out.trans (hbr.mono HBW.out.size))
            clear hbr hlt hi
            go_wp2_with fail
            go_at_call 7
            refine (HA.out _ HBE.out).mono ?_
            rintro e w6 ⟨rfl, hb6⟩
            have HB6 := Lib.hid (HBE.out.trans (hb6.mono HBE.out.size))
            clear hb6
            go_wp2_with fail
            go_ret
            exact ⟨rfl, HB6.out⟩
    · rw [join_two (by simpa using h1)] at hy
      cases hy with
      | mk xs hl hcp hr hk =>
        rename_i A9 c9
        have hxl : xs.length = s.size := by rw [hl]; simp
        obtain ⟨b, o, rfl, hrg⟩ := head_range hr (by rintro rfl; simp at hxl; omega)
        have hor := one_row hxl hrg hk
        have hkl : (s.data.toList.map oneN).length = s.size := by simp
        rw [hkl]
        obtain ⟨W3, hW3⟩ : ∃ W3, W3 = (w1.alloc (.cells #[.int .i64 2, .int .u64 (noS 0), .int .u64 (noS 1), .int .u64 (noS 2), .int .u64 (noS 3), .int .i64 0, .int .i64 0, .int .i64 0, .slice (some ⟨b, o, none⟩) s.size c9] 30)) := ⟨_, rfl⟩
        have HOR := Lib.hid (show OneRow W3 b o s by rw [hW3]; exact hor.below (bA w1 _))
        have HBW := Lib.hid (show Below w.heap.size w W3 by rw [hW3]; exact HB1.out.alloc HB1.out.size _)
        have d1 : ((s.size : Int) == 1) = false := by rw [beq_eq_false_iff_ne]; omega
        clear hor hrg hl hcp hr hk hb1 hlen hz1 hz2 h1 hxl hkl
        go_wp2_with fail
        rw [← hW3]
        clear hW3
        go_wp2_with fail
        go_loopw [9] (fun iv wr => ∃ i : Nat, iv = .int .i64 (i : Int) ∧ i ≤ s.size ∧ Below W3.heap.size W3 wr) (fun iv _ => s.size - (intOf iv).toNat)
        case atStart => exact ⟨0, rfl, Nat.zero_le _, Below.refl _ _⟩
        case round =>
          obtain ⟨i, rfl, hi, hbr⟩ := hrel
          have HBR := Lib.hid hbr
          by_cases hlt : i < s.size
          · have hiI : (i : Int) < (s.size : Int) := by omega
            have hi0 : (0 : Int) ≤ (i : Int) := by omega
            have hi4 : i < 200 := by have := HZ2.out; omega
            have hwr : wrap64 ((i : Int) + 1) = (i : Int) + 1 := IntWalk.wrap64_in _ (by omega)
            obtain ⟨Ak, ck, r0, r1, r2, r3, r4, r8⟩ := HOR.out.below hbr i hlt
            obtain ⟨T, hT⟩ : ∃ T, T = withS noS s[i].toNat s[i].toNat := ⟨_, rfl⟩
            rw [← hT] at r1 r2 r3 r4
            have HWT := Lib.hid (with_same hT (UInt8.toNat_lt s[i]))
            have q0 := cell_regrown r0
            have q1 := cell_regrown r1
            have q2 := cell_regrown r2
            have q3 := cell_regrown r3
            have q4 := cell_regrown r4
            have q8 := cell_regrown r8
            have RW := Lib.hid (RG.of HWT.out wr)
            unfold RG at RW
            have ES := eq_self T
            clear hT hbr
            go_upto_region 17 with fail
            go_cut [74] from 38 to 74 (fun t wx => t = .bool false ∧ Below wr.heap.size wr wx)
            case first =>
              refine wp_region_quiet_below (by kernel_rfl) (by kernel_rfl) ?_
              repeat (go_big_quiet_step (first | (with_reducible exact RW.out _ _)))
              refine wpQuiet_nil ?_
              rintro w5 ⟨⟨dq, osq⟩, rfl⟩
              have hb5 := below_regrown wr dq osq
              generalize grow (redrawn wr dq) osq = w5 at hb5 ⊢
              clear q0 q1 q2 q3 q4 q8 ES
              go_wp2_with fail
              go_meet
              case rel => exact ⟨rfl, hb5⟩
            obtain ⟨rfl, hbc⟩ := hcut
            have HBC := Lib.hid (HBR.out.trans (hbc.mono HBR.out.size))
            clear q0 q1 q2 q3 q4 q8 ES hbc
            go_wp2_with fail
            go_roundw
            case rel => exact ⟨i + 1, by go_num, hlt, HBC.out⟩
            case measure => simp only [intOf]; exact msr_lt hlt
          · have he : i = s.size := by omega
            subst he
            have hiI : ¬ (s.size : Int) < (s.size : Int) := by omega
            have HBE := Lib.hid (HBW.out.trans (hbr.mono HBW.out.size))
            clear hbr hlt hi
            go_wp2_with fail
            go_at_call 7
            refine (HA.out _ HBE.out).mono ?_
            rintro e w6 ⟨rfl, hb6⟩
            have HB6 := Lib.hid (HBE.out.trans (hb6.mono HBE.out.size))
            clear hb6
            go_wp2_with fail
            go_ret
            exact ⟨rfl, HB6.out⟩
end Go.Proofs.Ytbehbbmhkkidfaa

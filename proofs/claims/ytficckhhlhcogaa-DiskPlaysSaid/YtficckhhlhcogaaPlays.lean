/-
  The walk of DiskPlays.
-/
import Derived.Test.YtficckhhlhcogaaPair2
import Derived.Laws.BitsAllLaws
namespace Go.Proofs.Ytficckhhlhcogaa
open Go.RowKit Go.Maps
attribute [local go_sem ↓] Go.wp_at_zero Go.wp_at_succ

theorem plays_between (n : Nat) (h1 : 12 < n) (h2 : n ≤ 65536) (v : Value) (w : World) :
    Calls Try.prog 3 #[.int .i64 (n : Int), v] w (TrueIs w) := by
  have g1 : (12 : Int) < (n : Int) := by omega
  have g2 : (n : Int) ≤ 65536 := by omega
  go_enter Try.func3, Try.ntmps3
  go_wp2_with fail
  go_at_call 7
  (with_reducible refine (alive_any _).mono ?_)
  rintro e w' ⟨rfl, hb⟩
  go_wp2_with fail
  go_ret
  exact ⟨rfl, hb⟩

theorem plays_out (x : Int) (h : x < 1 ∨ 65536 < x) (v : Value) (w : World) :
    Calls Try.prog 3 #[.int .i64 x, v] w (TrueIs w) := by
  have g1 : (decide (12 < x) && decide (x ≤ 65536)) = false := by
    rcases h with h | h
    · simp; omega
    · simp; omega
  have HN := Lib.hid fun w => new_out x w h
  have HR := Lib.hid fun w => ref_new_out x w h
  by_cases h0 : 12 < x
  · have h2 : 65536 < x := by omega
    clear h g1
    go_enter Try.func3, Try.ntmps3
    go_wp2_with fail
    go_at_call 8
    (with_reducible refine (HN.out _).mono ?_)
    rintro e w' ⟨rfl, rfl⟩
    go_wp2_with fail
    go_at_call 9
    (with_reducible refine (HR.out _).mono ?_)
    rintro e w' ⟨rfl, rfl⟩
    go_wp2_with fail
    go_at_call 7
    (with_reducible refine (alive_any _).mono ?_)
    rintro e w' ⟨rfl, hb⟩
    go_wp2_with fail
    go_ret
    exact ⟨rfl, hb⟩
  · have h2 : x ≤ 12 := by omega
    clear h g1 h0
    go_enter Try.func3, Try.ntmps3
    go_wp2_with fail
    go_at_call 8
    (with_reducible refine (HN.out _).mono ?_)
    rintro e w' ⟨rfl, rfl⟩
    go_wp2_with fail
    go_at_call 9
    (with_reducible refine (HR.out _).mono ?_)
    rintro e w' ⟨rfl, rfl⟩
    go_wp2_with fail
    go_at_call 7
    (with_reducible refine (alive_any _).mono ?_)
    rintro e w' ⟨rfl, hb⟩
    go_wp2_with fail
    go_ret
    exact ⟨rfl, hb⟩

set_option maxRecDepth 100000 in
set_option maxHeartbeats 3000000 in
theorem plays_in (n : Nat) (h1 : 1 ≤ n) (h12 : n ≤ 12) (SA : Option Addr) (os : List OpM) (scap : Nat) (w : World) (hos : OpsAt w SA os) (hlen : os.length ≤ maxLen) (hsz : ∀ o ∈ os, o.b.length ≤ 140737488355328) :
    Calls Try.prog 3 #[.int .i64 (n : Int), .slice SA os.length scap] w (TrueIs w) := by
  unfold maxLen at hlen
  have HOS := Lib.hid hos
  have HSZ := Lib.hid hsz
  have HN := Lib.hid (new_in n w h1 (by omega))
  have HR := Lib.hid fun w => ref_new n w (by omega) (by omega)
  have g1 : (n : Int) ≤ 12 := by omega
  clear hos hsz
  go_enter Try.func3, Try.ntmps3
  go_wp2_with fail
  go_at_call 8
  (with_reducible refine HN.out.mono ?_)
  rintro e w1 ⟨p0, bf0, bs0, v0, rfl, hd0, hf0, hb0⟩
  have HND : Hid (NewDisk w n (.returned (.tuple #[.pointer (some ⟨p0, 0, none⟩), .int .i64 0])) w1) := Lib.hid ⟨p0, bf0, bs0, v0, rfl, hd0, hf0, hb0⟩
  clear hd0 hf0 hb0
  go_wp2_with fail
  go_at_call 9
  (with_reducible refine (HR.out _).mono ?_)
  rintro e w2 ⟨q0, vB0, Y0, rfl, hr0, hs0, hy0, hb2⟩
  have HP := Lib.hid (Pair.start (w0 := w) HND.out (Below.refl _ _) ⟨vB0, Y0, hr0, hs0, hy0, hb2⟩)
  clear hr0 hs0 hy0 hb2
  go_wp2_with fail
  go_loopw [5, 7, 9] (fun dv mv ii wr => ∃ (i p q : Nat) (cs : List CallM) (Z : Nat → Prop), ii = .int .i64 (i : Int) ∧ i ≤ 40 ∧ dv = .pointer (some ⟨p, 0, none⟩) ∧ mv = .pointer (some ⟨q, 0, none⟩) ∧ Pair w wr Z p q n i cs) (fun _ _ ii _ => 40 - (intOf ii).toNat)
  case atStart => exact ⟨0, p0, q0, [], _, rfl, by omega, rfl, rfl, HP.out⟩
  case round =>
    obtain ⟨i, p, q, cs, Z, rfl, hi, rfl, rfl, hP⟩ := hrel
    obtain ⟨wo, rfl⟩ : ∃ wo, wo = wr := ⟨_, rfl⟩
    by_cases hio : i < os.length ∧ i < 40
    · obtain ⟨hi1, hi2⟩ := hio
      obtain ⟨o, ho⟩ : ∃ o, os[i]? = some o := ⟨_, List.getElem?_eq_getElem hi1⟩
      obtain ⟨⟨hob, hok, wk, wn, wt, hbc, hbm, hkm⟩, sg, so, rfl, hrange⟩ := HOS.out i o ho
      have hob48 := HSZ.out o (List.mem_of_getElem? ho)
      have hbel := hP.below
      have k0w : w.cell? ⟨sg, so + i * 5, none⟩ = some (.int .i64 o.kind) := hrange 0 _ rfl
      have lsg := World.block_lt_of_cell? w _ k0w
      have kc : ∀ j u, o.cells[j]? = some u → wo.cell? ⟨sg, so + i * 5 + j, none⟩ = some u := fun j u hu => (hbel.cell (p := ⟨sg, so + i * 5 + j, none⟩) lsg).trans (hrange j u hu)
      have k0 : wo.cell? ⟨sg, so + i * 5, none⟩ = some (.int .i64 o.kind) := kc 0 _ rfl
      have k1 : wo.cell? ⟨sg, so + i * 5 + 1, none⟩ = some (.int .i64 o.n) := kc 1 _ rfl
      have k2 : wo.cell? ⟨sg, so + i * 5 + 2, none⟩ = some (.slice o.A o.b.length o.bcap) := kc 2 _ rfl
      have k3 : wo.cell? ⟨sg, so + i * 5 + 3, none⟩ = some (.slice o.K o.keep.length o.kcap) := kc 3 _ rfl
      have k4 : wo.cell? ⟨sg, so + i * 5 + 4, none⟩ = some (.int .i64 o.torn) := kc 4 _ rfl
      have hiI : (i : Int) < (os.length : Int) := by omega
      have hi0 : (0 : Int) ≤ (i : Int) := by omega
      have hi40 : (i : Int) < 40 := by omega
      have HPR := Lib.hid hP
      have HKC := Lib.hid kc
      have HOB := Lib.hid hob
      have HOK := Lib.hid hok
      have hZ := hP.z0
      have hs0 := hbel.size
      -- the box
      obtain ⟨WB, eWB⟩ : ∃ WB, WB = wo.alloc (.cells #[.int .i64 o.kind, .int .i64 o.n, .slice o.A o.b.length o.bcap, .slice o.K o.keep.length o.kcap, .int .i64 o.torn] 34) := ⟨_, rfl⟩
      have hbB : Below wo.heap.size wo WB := by rw [eWB]; exact (Below.refl _ _).alloc (Nat.le_refl _) _
      have hWBs : WB.heap.size = wo.heap.size + 1 := by rw [eWB]; simp
      have hBox : WB.heap[wo.heap.size]? = some (.cells #[.int .i64 o.kind, .int .i64 o.n, .slice o.A o.b.length o.bcap, .slice o.K o.keep.length o.kcap, .int .i64 o.torn] 34 (0, 0)) := by rw [eWB]; exact heap_alloc_new wo _
      have hgoZ : ¬ Z wo.heap.size := fun h => by have := (hZ _ h).2; omega
      have HBOX := Lib.hid hBox
      have HBB := Lib.hid hbB
      have HEWB := Lib.hid eWB
      have HGZ := Lib.hid hgoZ
      have HZ := Lib.hid hZ
      have HBE := Lib.hid hbel
      clear hP hrange k0w kc hob hok hZ hbB hBox hgoZ eWB hbel
      by_cases hk1 : o.kind = 1
      · -- a Write
        have hq1 : (o.kind == 1) = true := by simp [hk1]
        clear hk1
        have hbA : BytesAt (WB.alloc (.cells #[] 5)) o.A o.b := HOB.out.below ((HBE.out.trans (HBB.out.mono hs0)).alloc (by omega) _) (Nat.le_refl _)
        have hcp := run_append_bytes (Own.start WB) o.A o.b o.bcap hbA (by omega) (by simp)
        simp only [Nat.zero_add, List.nil_append] at hcp
        obtain ⟨gO, cO, W3, hap, hown, hgr, _⟩ := hcp
        have hgOge := hown.ge
        have hb3 : Below wo.heap.size wo W3 := (HBB.out.alloc (by omega) _).grown hgr (by simp; omega) (fun k hk => by injection hk with hk; omega)
        have hs3 := hb3.size
        have hP3 : Pair w W3.drew Z p q n i cs := HPR.out.later hb3.drew
        have hgOZ : ¬ Z gO := fun h => by have := (HZ.out _ h).2; omega
        have hAZ : ∀ g o', 0 < o.b.length → o.A = some ⟨g, o', none⟩ → g < w.heap.size := fun g o' hl e => by
          obtain ⟨g2, o2, e2, hc⟩ := HOB.out 0 _ (List.getElem?_eq_getElem hl)
          rw [e] at e2
          cases e2
          exact World.block_lt_of_cell? w _ hc
        have HW1 := Lib.hid (pair_write1 hP3 (by omega) (by omega) o.n o.b (some ⟨gO, 0, none⟩) cO (hown.bytes.below (((Below.refl _ W3).drew)) (Nat.le_refl _)) (by have := hown.2; have := hown.le; omega) (fun _ g o' e => by injection e with e; rw [← (Addr.mk.inj e).1]; exact hgOZ))
        have HW2 : Hid (∀ w4 Z1, Mid w w4 Z1 p q n i cs (wCs n cs o.n o.b) → Turned Z W3.drew w4 → (∀ j, Z1 j → Z j ∨ W3.drew.heap.size ≤ j) → Calls Try.prog 11 #[.pointer (some ⟨q, 0, none⟩), .int .i64 o.n, .slice o.A o.b.length o.bcap] w4 (Wrote2 w w4 Z1 p q n i (wCs n cs o.n o.b) (wCode n o.n o.b))) := Lib.hid fun w4 Z1 hM ht hz => by
          refine pair_write2 hM (by omega) (by omega) o.A o.bcap (fun j b hj => ?_) (fun hl g o' e hzz => ?_)
          · obtain ⟨g, o', e, hc⟩ := HOB.out j b hj
            have hl : 0 < o.b.length := by have := (List.getElem?_eq_some_iff.1 hj).1; omega
            have hlt := hAZ g o' hl e
            refine ⟨g, o', e, ht.cell (p := ⟨g, o' + j, none⟩) (((HBE.out.trans (hb3.mono hs0)).drew.cell (p := ⟨g, o' + j, none⟩) hlt).trans hc) (fun hz2 => ?_)⟩
            have := (HZ.out _ hz2).1
            exact absurd this (by show ¬ w.heap.size ≤ g; omega)
          · have hlt := hAZ g o' hl e
            rcases hz g hzz with h | h
            · have := (HZ.out _ h).1; omega
            · have h' : W3.heap.size ≤ g := h
              omega
        have hb3B : Below WB.heap.size WB W3 := ((Below.refl _ WB).alloc (Nat.le_refl _) _).grown hgr (by simp) (fun k hk => by injection hk with hk; omega)
        have b1 : W3.drew.cell? ⟨wo.heap.size, 1, none⟩ = some (.int .i64 o.n) := (hb3B.drew.cell (p := ⟨wo.heap.size, 1, none⟩) (by show wo.heap.size < _; omega)).trans (cell_of_row _ _ 1 _ _ _ HBOX.out)
        have b2 : W3.drew.cell? ⟨wo.heap.size, 2, none⟩ = some (.slice o.A o.b.length o.bcap) := (hb3B.drew.cell (p := ⟨wo.heap.size, 2, none⟩) (by show wo.heap.size < _; omega)).trans (cell_of_row _ _ 2 _ _ _ HBOX.out)
        have b1' : W3.cell? ⟨wo.heap.size, 1, none⟩ = some (.int .i64 o.n) := b1
        have b2' : W3.cell? ⟨wo.heap.size, 2, none⟩ = some (.slice o.A o.b.length o.bcap) := b2
        have hap2 := hap
        rw [hWBs] at hap2
        rw [HEWB.out] at hap2
        have HAP := Lib.hid hap2
        have HOW := Lib.hid hown
        have HB3 := Lib.hid hb3
        have HGO := Lib.hid (And.intro hgOge hgOZ)
        have HGG : Hid (∀ Z1 : Nat → Prop, (∀ j, Z1 j → Z j ∨ W3.drew.heap.size ≤ j) → ¬ Z1 wo.heap.size) := Lib.hid fun Z1 hz hh => by
          rcases hz _ hh with h | h
          · exact HGZ.out h
          · have h' : W3.heap.size ≤ wo.heap.size := h
            have := hown.lt
            omega
        have re := run_empty
        clear hb3B hap hap2 hown hgr hb3 hP3 hgOZ hAZ hbA
        go_wp2_with (first | refine wpList_append_to 75 HAP.out rfl rfl ?_)
        go_region_held3 (fun x => x.cell? ⟨wo.heap.size, 1, none⟩ = some (.int .i64 o.n) ∧ x.cell? ⟨wo.heap.size, 2, none⟩ = some (.slice o.A o.b.length o.bcap))
          ((go_split_ands; refine ⟨?_, ?_⟩ <;> first | assumption | exact b1' | exact b2' | exact ht4.cell b1 HGZ.out | exact ht4.cell b2 HGZ.out | exact ht5.cell (ht4.cell b1 HGZ.out) (HGG.out _ hz4) | exact ht5.cell (ht4.cell b2 HGZ.out) (HGG.out _ hz4)))
          (first
            | (go_at_call 10; (with_reducible refine HW1.out.mono ?_); rintro e w4 ⟨rfl, Z1, hM, ht4, hz4⟩)
            | (go_at_call 11; (with_reducible refine (HW2.out _ _ hM ht4 hz4).mono ?_); rintro e w5 ⟨rfl, Z2, hP5, ht5, hz5⟩))
        have hOw5 : Own w5 WB.heap.size gO o.b.length cO o.b := ((HOW.out.below (B := W3.heap.size) (Below.refl _ W3).drew (Nat.le_refl _)).turned ht4 HGO.out.2).turned ht5 (fun h => by
          rcases hz4 _ h with h | h
          · exact HGO.out.2 h
          · have h' : W3.heap.size ≤ gO := h
            have := HOW.out.lt
            omega)
        have hG2 : ¬ Z2 gO ∧ w.heap.size ≤ gO := ⟨fun h => by
          have hl := HOW.out.lt
          have h4 := ht4.size
          have h4' : W3.heap.size ≤ w4.heap.size := h4
          rcases hz5 _ h with h | h
          · rcases hz4 _ h with h | h
            · exact HGO.out.2 h
            · have h' : W3.heap.size ≤ gO := h
              omega
          · omega, by have := HGO.out.1; omega⟩
        have HO5 := Lib.hid hOw5
        have HG2 := Lib.hid hG2
        have HP5 := Lib.hid hP5
        clear hOw5 hG2 hP5 ht4 ht5 hz4 hz5 hM
        go_wp2_with fail
        go_loopw [13] (fun kk wr => ∃ (k : Nat) (l' : List UInt8), kk = .int .i64 (k : Int) ∧ k ≤ o.b.length ∧ Own wr WB.heap.size gO o.b.length cO l' ∧ Pair w wr Z2 p q n (i + 1) (wCs n cs o.n o.b)) (fun kk _ => o.b.length - (intOf kk).toNat)
        case atStart => exact ⟨0, o.b, rfl, Nat.zero_le _, HO5.out, HP5.out⟩
        case round =>
          obtain ⟨k, l', rfl, hk, hO, hPk⟩ := hrel
          by_cases hkl : k < o.b.length
          · obtain ⟨x, hx⟩ : ∃ x, l'[k]? = some x := ⟨_, List.getElem?_eq_getElem (by rw [hO.2]; exact hkl)⟩
            have hcell := hO.cell k x hx
            have hfr := World.ownsRow.frozenAt hO.1 k
            have hst := hO.stored k (x ^^^ 255)
            have hPs := hPk.turned (turned_setCell wr gO k (.int .u8 (x ^^^ 255).toNat)) (fun j hj => by rw [hj]; exact HG2.out)
            have hxor : bits .xor .u8 (x.toNat : Int) 255 = ((x.toNat ^^^ 255 : Nat) : Int) := u8_xor_nat _ 255 x.toNat_lt (by omega)
            rw [UInt8.toNat_xor, show (255 : UInt8).toNat = 255 from rfl] at hst hPs
            have hkI : (k : Int) < (o.b.length : Int) := by omega
            have hk0 : (0 : Int) ≤ (k : Int) := by omega
            have HST := Lib.hid hst
            have HPS := Lib.hid hPs
            clear hst hPs hO hPk hx
            go_wp2_with fail
            go_roundw
            case rel => exact ⟨k + 1, _, by go_num, by omega, HST.out, HPS.out⟩
            case measure => simp [intOf]; omega
          · have hkI : (o.b.length : Int) ≤ (k : Int) := by omega
            have HAL := Lib.hid (hPk.alike (by omega) (by omega))
            have HPK := Lib.hid hPk
            clear hO hPk
            go_wp2_with fail
            go_at_call 16
            (with_reducible refine HAL.out.mono ?_)
            rintro e w9 ⟨rfl, hb9⟩
            go_wp2_with fail
            go_roundw
            case rel => exact ⟨i + 1, p, q, _, Z2, by go_num, by omega, rfl, rfl, HPK.out.later hb9⟩
            case measure => simp [intOf]; omega
      · have hq1 : (o.kind == 1) = false := by simp [hk1]
        clear hk1
        have hPB := HPR.out.later HBB.out
        by_cases hk2 : o.kind = 2
        · have hq2 : (o.kind == 2) = true := by simp [hk2]
          clear hk2
          have hS1 := pair_sync1 hPB (by omega)
          rw [HEWB.out] at hS1
          have HS1 := Lib.hid hS1
          clear hS1 hPB
          go_wp2_with fail
          go_at_call 12
          (with_reducible refine HS1.out.mono ?_)
          rintro e w4 ⟨rfl, Z1, hM, ht4, hz4⟩
          have HS2 := Lib.hid (pair_sync2 hM (by omega))
          clear hM ht4 hz4
          go_wp2_with fail
          go_at_call 13
          (with_reducible refine HS2.out.mono ?_)
          rintro e w5 ⟨rfl, Z2, hP5, ht5, hz5⟩
          have HAL := Lib.hid (hP5.alike (by omega) (by omega))
          have HPK := Lib.hid hP5
          clear hP5 ht5 hz5
          go_wp2_with fail
          go_at_call 16
          (with_reducible refine HAL.out.mono ?_)
          rintro e w9 ⟨rfl, hb9⟩
          go_wp2_with fail
          go_roundw
          case rel => exact ⟨i + 1, p, q, _, Z2, by go_num, by omega, rfl, rfl, HPK.out.later hb9⟩
          case measure => simp [intOf]; omega
        · have hq2 : (o.kind == 2) = false := by simp [hk2]
          clear hk2
          by_cases hk3 : o.kind = 3
          · have hq3 : (o.kind == 3) = true := by simp [hk3]
            clear hk3
            have hbo : ∀ w4 : World, Below w.heap.size w w4 → BoolsAt w4 o.K o.keep := fun w4 hb j b hj => by
              obtain ⟨g, o', e, hc⟩ := HOK.out j b hj
              exact ⟨g, o', e, (hb.cell (p := ⟨g, o' + j, none⟩) (World.block_lt_of_cell? w _ hc)).trans hc⟩
            have hbWB := HBE.out.trans (HBB.out.mono hs0)
            have hkl9 : o.keep.length ≤ 9223372036854775807 := by have h := hkm; unfold maxLen at h; omega
            have hC1 := pair_cut1 hPB (by omega) o.n o.torn o.K o.kcap o.keep wn wt (hbo _ hbWB) hkl9
            rw [HEWB.out] at hC1
            have HC1 := Lib.hid hC1
            have HBO := Lib.hid hbo
            have HBWB := Lib.hid hbWB
            clear hC1 hPB hbo hbWB
            go_wp2_with fail
            go_at_call 14
            (with_reducible refine HC1.out.mono ?_)
            rintro e w4 ⟨px, rfl, hb4, hM⟩
            rw [← HEWB.out] at hb4
            have hb4' : Below WB.heap.size WB w4 := hb4
            have b1 : w4.cell? ⟨wo.heap.size, 1, none⟩ = some (.int .i64 o.n) := (hb4'.cell (p := ⟨wo.heap.size, 1, none⟩) (by show wo.heap.size < _; omega)).trans (cell_of_row _ _ 1 _ _ _ HBOX.out)
            have b3 : w4.cell? ⟨wo.heap.size, 3, none⟩ = some (.slice o.K o.keep.length o.kcap) := (hb4'.cell (p := ⟨wo.heap.size, 3, none⟩) (by show wo.heap.size < _; omega)).trans (cell_of_row _ _ 3 _ _ _ HBOX.out)
            have b4 : w4.cell? ⟨wo.heap.size, 4, none⟩ = some (.int .i64 o.torn) := (hb4'.cell (p := ⟨wo.heap.size, 4, none⟩) (by show wo.heap.size < _; omega)).trans (cell_of_row _ _ 4 _ _ _ HBOX.out)
            have hb4w : Below w.heap.size w w4 := HBWB.out.trans (hb4'.mono (by omega))
            have HC2 := Lib.hid (pair_cut2 hM (by omega) (by omega) o.K o.kcap wn wt (HBO.out _ hb4w) hkl9)
            clear hM hb4 hb4' hb4w
            go_wp2_with fail
            go_at_call 15
            (with_reducible refine HC2.out.mono ?_)
            rintro e w5 ⟨py, rfl, hb5, hPo, Z2, hP5, hz2⟩
            have HAL := Lib.hid (hPo.alike (by omega) (by omega))
            have HP5 := Lib.hid hP5
            clear hP5 hPo hb5 hz2
            go_wp2_with fail
            go_at_call 16
            (with_reducible refine HAL.out.mono ?_)
            rintro e w9 ⟨rfl, hb9⟩
            have hP9 := HP5.out.later hb9
            have HAL2 := Lib.hid (hP9.alike (by omega) (by omega))
            have HP9 := Lib.hid hP9
            clear hP9
            go_wp2_with fail
            go_at_call 16
            (with_reducible refine HAL2.out.mono ?_)
            rintro e w10 ⟨rfl, hb10⟩
            go_wp2_with fail
            go_roundw
            case rel => exact ⟨i + 1, px, py, [], Z2, by go_num, by omega, rfl, rfl, HP9.out.later hb10⟩
            case measure => simp [intOf]; omega
          · have hq3 : (o.kind == 3) = false := by simp [hk3]
            clear hk3
            have hAL := hPB.alike (by omega) (by omega)
            have hb0 := hPB
            rw [HEWB.out] at hAL hb0
            have HAL := Lib.hid hAL
            have HPB := Lib.hid hb0
            clear hPB hAL hb0
            go_wp2_with fail
            go_at_call 16
            (with_reducible refine HAL.out.mono ?_)
            rintro e w9 ⟨rfl, hb9⟩
            go_wp2_with fail
            go_roundw
            case rel => exact ⟨i + 1, p, q, cs, Z, by go_num, by omega, rfl, rfl, (HPB.out.later hb9).more⟩
            case measure => simp [intOf]; omega
    · have HBE := Lib.hid hP.below
      by_cases hil : i < os.length
      · have hi40 : (40 : Int) ≤ (i : Int) := by omega
        have hiI : (i : Int) < (os.length : Int) := by omega
        clear hio hP
        go_wp2_with fail
        go_at_call 7
        (with_reducible refine (alive_any _).mono ?_)
        rintro e w9 ⟨rfl, hb9⟩
        go_wp2_with fail
        go_ret
        exact ⟨rfl, HBE.out.trans (hb9.mono HBE.out.size)⟩
      · have hiI : (os.length : Int) ≤ (i : Int) := by omega
        clear hio hP
        go_wp2_with fail
        go_at_call 7
        (with_reducible refine (alive_any _).mono ?_)
        rintro e w9 ⟨rfl, hb9⟩
        go_wp2_with fail
        go_ret
        exact ⟨rfl, HBE.out.trans (hb9.mono HBE.out.size)⟩
end Go.Proofs.Ytficckhhlhcogaa

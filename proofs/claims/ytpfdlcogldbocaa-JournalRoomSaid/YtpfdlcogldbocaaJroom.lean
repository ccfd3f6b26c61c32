/-
  The walk of JournalRoom: it returns true and touches nothing that was there. Conditions: the lists and the bytes lie in memory, and the bytes are fewer than 2^48.
-/
import Derived.Test.YtpfdlcogldbocaaJwith
import Derived.Laws.BitsAllLaws
import Derived.Deep.CutRange
namespace Go.Proofs.Ytpfdlcogldbocaa
open Go.RowKit Go.Deep Go.Maps

def RoomRel (w : World) (pj g p : Nat) (nv iv : Value) (wr : World) : Prop :=
  ∃ (i : Nat) (Z : Nat → Prop) (cs : List CallM) (rs : List (List UInt8)), iv = .int .i64 (i : Int) ∧ nv = .int .i64 (rs.length : Int) ∧ i ≤ 30 ∧ rs.length ≤ i ∧ JS wr Z pj g p 12 2 6 (fun _ => none) cs rs (100 + 10 * i) ∧ Within 2 6 cs ∧
    (∀ j, Z j ∨ j = pj ∨ j = g → w.heap.size ≤ j) ∧ Below w.heap.size w wr

theorem js_room' {w : World} {Z : Nat → Prop} {pj g p n f k m : Nat} {F : Int → Option (List UInt8)} {cs : List CallM} {ls : List (List UInt8)} {x : Int} (h : JS w Z pj g p n f k F cs ls m) (hk : k ≤ 65536) (hx : 32 * (k : Int) - ((frames ls).length : Int) = x) :
    Calls Try.prog 25 #[.pointer (some ⟨pj, 0, none⟩)] w fun e w' => e = .returned (.int .i64 x) ∧ ∃ m, w' = w.drewN m := by
  rw [← hx]
  exact js_room h hk

set_option maxRecDepth 100000 in
set_option maxHeartbeats 4000000 in
theorem room_any (A0 : Option Addr) (ls : List (List UInt8)) (cap : Nat) (B0 : Option Addr) (mo : List UInt8) (cb : Nat) (w : World) (hR : RowsAt w A0 ls) (_hk : ls.length ≤ maxLen) (hB : BytesAt w B0 mo) (hmo : mo.length ≤ 281474976710656) :
    Calls Try.prog 6 #[.slice A0 ls.length cap, .slice B0 mo.length cb] w (TrueIs w) := by
  have hn := dk_new 12 w (by omega) (by omega)
  rw [show ((12 : Nat) : Int) = 12 from rfl] at hn
  have HN := Lib.hid hn
  have HR := Lib.hid hR
  have HB0 := Lib.hid hB
  obtain ⟨nl, enl⟩ : ∃ nl, nl = ls.length := ⟨_, rfl⟩
  obtain ⟨q, eq⟩ : ∃ q, q = mo.length := ⟨_, rfl⟩
  have ENL := Lib.hid enl
  have EQ := Lib.hid eq
  rw [← enl] at _hk ⊢
  rw [← eq] at hmo ⊢
  unfold maxLen at _hk
  clear hn hR hB enl eq
  go_enter Try.func6, Try.ntmps6
  go_wp2_with fail
  go_at_call 7
  (with_reducible refine HN.out.mono ?_)
  rintro e w1 ⟨p, rfl, hd1, hb1⟩
  have HD1 := Lib.hid hd1
  have HB1 := Lib.hid hb1
  clear hd1 hb1
  go_wp2_with fail
  go_at_call 9
  (with_reducible refine (alive_any w1).mono ?_)
  rintro e w2 ⟨rfl, hb2⟩
  have hd2 := HD1.out.below hb2
  have hbw2 : Below w.heap.size w w2 := HB1.out.trans (hb2.mono HB1.out.size)
  have ho := js_open hd2 2 6 (by omega) (by omega) (by omega) (by omega)
  rw [show ((2 : Nat) : Int) = 2 from rfl, show ((6 : Nat) : Int) = 6 from rfl] at ho
  have HO := Lib.hid ho
  have HB2 := Lib.hid hbw2
  have HS2 := Lib.hid hb2.size
  clear hd2 hbw2 ho hb2
  go_wp2_with fail
  go_at_call 10
  (with_reducible refine HO.out.mono ?_)
  rintro e w3 ⟨pj, g, Z3, rs, u, rfl, hs3, hj3, hn3, hz3, ht3⟩
  rw [reg_none] at hs3
  obtain ⟨rfl, rfl⟩ := scan_noughts hs3
  have hwi : Within 2 6 (openCs (con (fun _ => none) []) [] 2 6 0) := within_open (fun x => rfl) (by omega) (Within.nil 2 6)
  obtain ⟨cs3, ecs3⟩ : ∃ c, c = openCs (con (fun _ => none) []) [] 2 6 0 := ⟨_, rfl⟩
  rw [← ecs3] at hj3 hwi
  have hge : ∀ j, Z3 j ∨ j = pj ∨ j = g → w.heap.size ≤ j := fun j hj => by
    have h1 := HB1.out.size
    have h2 := HS2.out
    rcases hj with hj | hj | hj
    · rcases hz3 j hj with h | h
      · exact h.1
      · omega
    · omega
    · omega
  have hb3 : Below w.heap.size w w3 := turned_new HB2.out (fun j hj => hj.1) ht3
  have hro := js_room hj3 (by omega)
  rw [show 32 * ((6 : Nat) : Int) - ((frames []).length : Int) = 192 from rfl] at hro
  have HRO := Lib.hid hro
  have HST : Hid (∀ N, RoomRel w pj g p (.int .i64 0) (.int .i64 0) (w3.drewN N)) := Lib.hid fun N => ⟨0, Z3, cs3, [], rfl, rfl, by omega, Nat.le_refl _, (hj3.below (below_drewN _ _ N)).more (by omega), hwi, hge, hb3.trans ((below_drewN w3.heap.size w3 N).mono hb3.size)⟩
  clear hs3 hj3 hn3 hz3 ht3 hwi ecs3 hge hb3 hro
  go_wp2_with fail
  go_at_call 25
  (with_reducible refine HRO.out.mono ?_)
  rintro e w4 ⟨rfl, N, rfl⟩
  have HST4 := Lib.hid (HST.out N)
  obtain ⟨w4, e4⟩ : ∃ w4, w4 = w3.drewN N := ⟨_, rfl⟩
  rw [← e4] at HST4 ⊢
  clear e4 HST
  go_wp2_with fail
  go_loopw [9, 10] (fun nv iv wr => RoomRel w pj g p nv iv wr) (fun _ iv _ => 30 - (intOf iv).toNat)
  case atStart => exact HST4.out
  case round =>
    obtain ⟨i, Z, cs, rs, rfl, rfl, hi, hri, hj, hwi, hge, hbw⟩ := hrel
    obtain ⟨rn, ern⟩ : ∃ rn, rn = rs.length := ⟨_, rfl⟩
    rw [← ern] at hri ⊢
    by_cases hio : i < nl ∧ i < 30
    · obtain ⟨hi1, hi2⟩ := hio
      obtain ⟨l, hl⟩ : ∃ l, ls[i]? = some l := ⟨ls[i]'(by have := ENL.out; omega), List.getElem?_eq_getElem _⟩
      obtain ⟨ga, oa, B, c, rfl, hc, hbl⟩ := HR.out i l hl
      have hcr : wr.cell? ⟨ga, oa + i, none⟩ = some (.slice B l.length c) := (hbw.cell (p := ⟨ga, oa + i, none⟩) (World.block_lt_of_cell? w _ hc)).trans hc
      obtain ⟨x, ex⟩ : ∃ x, x = l.length := ⟨_, rfl⟩
      rw [← ex] at hcr hc
      have HCW := Lib.hid hc
      have HJ := Lib.hid hj
      have HWI := Lib.hid hwi
      have HGE := Lib.hid hge
      have HBW := Lib.hid hbw
      have HBL := Lib.hid hbl
      have ERN := Lib.hid ern
      have EX := Lib.hid ex
      have hiI : (i : Int) < (nl : Int) := by omega
      have hi0 : (0 : Int) ≤ (i : Int) := by omega
      have hi30 : (i : Int) < 30 := by omega
      clear hj hwi hge hbw hc hbl hl ern ex
      by_cases hx0 : x = 0
      · have hx0I : ((x : Int) == 0) = true := by simp [hx0]
        clear hx0
        go_wp2_with fail
        go_roundw
        case rel => exact ⟨i + 1, Z, cs, rs, by go_num, by rw [ERN.out], by omega, by rw [← ERN.out]; omega, HJ.out.more (by omega), HWI.out, HGE.out, HBW.out⟩
        case measure => simp [intOf]; omega
      · have hx0I : ((x : Int) == 0) = false := by simp [hx0]
        by_cases hx1 : 100 < x
        · have hx1I : decide (100 < (x : Int)) = true := by simp; omega
          clear hx0
          go_wp2_with fail
          go_roundw
          case rel => exact ⟨i + 1, Z, cs, rs, by go_num, by rw [ERN.out], by omega, by rw [← ERN.out]; omega, HJ.out.more (by omega), HWI.out, HGE.out, HBW.out⟩
          case measure => simp [intOf]; omega
        · have hx1I : decide (100 < (x : Int)) = false := by simp; omega
          have hx100 : (x : Int) ≤ 100 := by omega
          obtain ⟨ρ, eρ⟩ : ∃ ρ : Nat, ρ = 192 - (frames rs).length := ⟨_, rfl⟩
          have hfit := HJ.out.2.2.2.2.1
          have hro := fun N => js_room (HJ.out.below (below_drewN wr.heap.size wr N)) (by omega)
          have eρI : 32 * ((6 : Nat) : Int) - ((frames rs).length : Int) = (ρ : Int) := by omega
          simp only [eρI] at hro
          have hρ : ρ ≤ 192 := by omega
          have HRO := Lib.hid hro
          have HRS : Hid ((frames rs).length + ρ = 192) := Lib.hid (by omega)
          have hrec : RecOk l := ⟨by have := EX.out; omega, by have := EX.out; omega⟩
          have hlf := length_frame l
          have hro1 := js_room HJ.out (by omega)
          rw [eρI] at hro1
          have HRO1 := Lib.hid hro1
          clear hro1
          have hx7 : IntKind.i64.wrap ((x : Int) + 7) = (x : Int) + 7 := IntWalk.i64_in _ (by omega)
          by_cases hf : x + 7 ≤ ρ
          · have hap := fun N => js_append (HJ.out.below (below_drewN wr.heap.size wr N)) (by omega) (by omega) (by omega) B l c ((HBL.out.below HBW.out).drewN N) hrec (by have := EX.out; omega)
            rw [← EX.out] at hap
            have HAP := Lib.hid hap
            have hfI : decide ((x : Int) + 7 ≤ (ρ : Int)) = true := by simp; omega
            have q1 : IntKind.i64.wrap ((ρ : Int) - 7) = (ρ : Int) - 7 := IntWalk.i64_in _ (by omega)
            have q2 : IntKind.i64.wrap ((ρ : Int) - 7 - (x : Int)) = (ρ : Int) - 7 - (x : Int) := IntWalk.i64_in _ (by omega)
            have HFL : Hid ((frames (rs ++ [l])).length = (frames rs).length + (7 + x)) := Lib.hid (by rw [frames_snoc, List.length_append, hlf, ← EX.out])
            have HRHO : Hid ((frames rs).length + ρ = 192) := Lib.hid (by omega)
            have HNX := Lib.hid (length_tex (ls := rs ++ [l]) (k := 6) (r := (rs ++ [l]).length) (by rw [HFL.out]; omega))
            have HXR : Hid (x + 7 ≤ ρ) := Lib.hid hf
            clear hro eρI eρ hap hfit hf
            go_wp2_with fail
            go_at_call 25
            (with_reducible refine (HRO1.out).mono ?_)
            rintro e w5 ⟨rfl, N5, rfl⟩
            go_wp2_with fail
            go_at_call 12
            (with_reducible refine (HAP.out _).mono ?_)
            rintro e w6 ⟨rfl, Z6, hj6, hz6, ht6⟩
            have hbd := HBW.out.trans ((below_drewN wr.heap.size wr N5).mono HBW.out.size)
            have hb6 : Below w.heap.size w w6 := turned_new hbd (fun j hj => HGE.out j hj) ht6
            have hcr6 : w6.cell? ⟨ga, oa + i, none⟩ = some (.slice B x c) := (hb6.cell (p := ⟨ga, oa + i, none⟩) (World.block_lt_of_cell? w _ HCW.out)).trans HCW.out
            have hge6 : ∀ j, Z6 j ∨ j = pj ∨ j = g → w.heap.size ≤ j := fun j hj => by
              rcases hj with hj | hj
              · rcases hz6 j hj with h | h
                · exact HGE.out j (.inl h)
                · exact Nat.le_trans hbd.size h
              · exact HGE.out j (.inr hj)
            have hro6 : ∀ N, Calls Try.prog 25 #[.pointer (some ⟨pj, 0, none⟩)] (w6.drewN N) fun e w' => e = .returned (.int .i64 ((ρ : Int) - 7 - (x : Int))) ∧ ∃ m, w' = (w6.drewN N).drewN m := fun N => by
              have h := js_room (hj6.below (below_drewN w6.heap.size w6 N)) (by omega)
              have e1 : 32 * ((6 : Nat) : Int) - ((frames (rs ++ [l])).length : Int) = (ρ : Int) - 7 - (x : Int) := by
                have h1 := HFL.out
                have h2 := HRHO.out
                omega
              rw [e1] at h
              exact h
            have hwi6 := HWI.out.append (within_wto (next := nextOf (reg (con (fun _ => none) cs) 2 6) l (frames rs).length) (f := 2) (b0 := (frames rs).length / 32) (k := 6) (j := wrote (frames rs).length (frame l).length) (by omega) (by
              rw [HJ.out.2.2.1, next_tex (by rw [hlf, ← EX.out]; have := HRHO.out; have h3 := HXR.out; omega)]
              exact HNX.out) (by have := HRHO.out; have h3 := HXR.out; have := EX.out; unfold wrote; omega))
            have HRO6 := Lib.hid hro6
            have HREL : Hid (∀ N, RoomRel w pj g p (.int .i64 ((rn : Int) + 1)) (.int .i64 ((i : Int) + 1)) (w6.drewN N)) := Lib.hid fun N => ⟨i + 1, Z6, _, rs ++ [l], by go_num, by rw [List.length_append, ← ERN.out]; simp, by omega, by rw [List.length_append, ← ERN.out]; simp; omega, (hj6.below (below_drewN w6.heap.size w6 N)).more (by omega), hwi6, hge6, hb6.trans ((below_drewN w6.heap.size w6 N).mono hb6.size)⟩
            clear hj6 hz6 ht6 hbd hb6 hge6 hro6 hwi6 hlf hrec
            go_wp2_with fail
            go_quiet ((go_at_call 25; exact Calls.quiet_of (HRO6.out _)))
            go_wp2_with fail
            go_roundw
            case rel => exact HREL.out _
            case measure => simp [intOf]; omega
          · have hap := fun N => js_append_full (HJ.out.below (below_drewN wr.heap.size wr N)) (by omega) B l c ((HBL.out.below HBW.out).drewN N) hrec (by have := EX.out; omega)
            rw [← EX.out] at hap
            have HAP := Lib.hid hap
            have hfI : decide ((x : Int) + 7 ≤ (ρ : Int)) = false := by simp; omega
            clear hro eρI eρ hap hfit hf
            go_wp2_with fail
            go_at_call 25
            (with_reducible refine (HRO1.out).mono ?_)
            rintro e w5 ⟨rfl, N5, rfl⟩
            go_wp2_with fail
            go_at_call 12
            (with_reducible refine (HAP.out _).mono ?_)
            rintro e w6 ⟨rfl, hb6'⟩
            have hbd : Below wr.heap.size wr w6 := (below_drewN wr.heap.size wr N5).trans hb6'
            have hb6 : Below w.heap.size w w6 := HBW.out.trans (hbd.mono HBW.out.size)
            have hcr6 : w6.cell? ⟨ga, oa + i, none⟩ = some (.slice B x c) := (hb6.cell (p := ⟨ga, oa + i, none⟩) (World.block_lt_of_cell? w _ HCW.out)).trans HCW.out
            have hro6 : ∀ N, Calls Try.prog 25 #[.pointer (some ⟨pj, 0, none⟩)] (w6.drewN N) fun e w' => e = .returned (.int .i64 (ρ : Int)) ∧ ∃ m, w' = (w6.drewN N).drewN m := fun N =>
              js_room' (HJ.out.below (hbd.trans (below_drewN wr.heap.size w6 N))) (by omega) (by have := HRS.out; omega)
            have HRO6 := Lib.hid hro6
            have HREL : Hid (∀ N, RoomRel w pj g p (.int .i64 (rn : Int)) (.int .i64 ((i : Int) + 1)) (w6.drewN N)) := Lib.hid fun N => ⟨i + 1, Z, cs, rs, by go_num, by rw [ERN.out], by omega, by rw [← ERN.out]; omega, (HJ.out.below (hbd.trans (below_drewN wr.heap.size w6 N))).more (by omega), HWI.out, HGE.out, hb6.trans ((below_drewN w6.heap.size w6 N).mono hb6.size)⟩
            clear hbd hb6 hb6' hro6 hlf hrec
            go_wp2_with fail
            go_quiet ((go_at_call 25; exact Calls.quiet_of (HRO6.out _)))
            go_wp2_with fail
            go_roundw
            case rel => exact HREL.out _
            case measure => simp [intOf]; omega
    · have HJ := Lib.hid hj
      have HWI := Lib.hid hwi
      have HGE := Lib.hid hge
      have HBW := Lib.hid hbw
      have ERN := Lib.hid ern
      clear hj hwi hge hbw ern
      go_upto_region 9 with fail
      go_cut [55] from 48 to 122 (fun t wx => t = .bool false ∧ wr = wx)
      case first =>
        by_cases hi3 : i < nl
        · have hi4 : decide ((i : Int) < 30) = false := by simp; omega
          have hi5 : (i : Int) < (nl : Int) := by omega
          go_wp2_with fail
          go_meet
          exact ⟨rfl, rfl⟩
        · have hi5 : (nl : Int) ≤ (i : Int) := by omega
          go_wp2_with fail
          go_meet
          exact ⟨rfl, rfl⟩
      case rest =>
        obtain ⟨rfl, rfl⟩ := hcut
        have HRE := Lib.hid (js_records HJ.out (by omega))
        go_wp2_with fail
        go_at_call 24
        (with_reducible refine (HRE.out).mono ?_)
        rintro e w5 ⟨v5, rfl, hl5, hb5⟩
        obtain ⟨A5, c5, rfl, _⟩ := hl5.rows
        rw [← ERN.out]
        have hbw5 := HBW.out.trans (hb5.mono HBW.out.size)
        have HCL := Lib.hid (js_clear (HJ.out.below hb5) (by omega) (by omega) (by omega))
        have HB5 := Lib.hid hbw5
        clear hl5 hb5 hbw5
        go_wp2_with fail
        go_at_call 21
        (with_reducible refine (HCL.out).mono ?_)
        rintro e w6 ⟨rfl, Z6, hj6, hz6, ht6⟩
        have hb6 : Below w.heap.size w w6 := turned_new HB5.out (fun j hj => HGE.out j hj) ht6
        have hcs6 := (HWI.out.append (within_zto (n := 0) (f := 2) (k := 6) (con_all32 none32 HJ.out.1.ok) (by omega))).append (Within.sync 2 6)
        have HCON := Lib.hid (con_zero hj6.1.ok hcs6 (hj6.2.2.1.trans (tex_nil 6)))
        obtain ⟨cs6, ecs6⟩ : ∃ c, c = cs ++ zto (con (fun _ => none) cs) 2 6 0 6 ++ [syncM] := ⟨_, rfl⟩
        rw [← ecs6] at hj6 HCON
        have hre6 := js_records hj6 (by omega)
        have HJ6 := Lib.hid hj6
        have HB6 := Lib.hid hb6
        have hge6 : ∀ j, Z6 j ∨ j = pj ∨ j = g → w.heap.size ≤ j := fun j hj => by
          rcases hj with hj | hj
          · rcases hz6 j hj with h | h
            · exact HGE.out j (.inl h)
            · exact Nat.le_trans HB5.out.size h
          · exact HGE.out j (.inr hj)
        have HGE6 := Lib.hid hge6
        clear hge6
        have HRE6 := Lib.hid hre6
        clear hj6 hz6 ht6 hb6 hcs6 hre6 ecs6
        go_wp2_with fail
        go_at_call 24
        (with_reducible refine (HRE6.out).mono ?_)
        rintro e w7 ⟨v7, rfl, hl7, hb7⟩
        obtain ⟨A7, c7, rfl, _⟩ := hl7.rows
        have hj7 := HJ6.out.below hb7
        have hro7 := js_room hj7 (by omega)
        rw [show 32 * ((6 : Nat) : Int) - ((frames []).length : Int) = 192 from rfl] at hro7
        have HRO7 := Lib.hid hro7
        have HJ7 := Lib.hid hj7
        have HB7 := Lib.hid (HB6.out.trans (hb7.mono HB6.out.size))
        clear hl7 hb7 hj7 hro7
        go_wp2_with fail
        go_at_call 25
        (with_reducible refine (HRO7.out).mono ?_)
        rintro e w8 ⟨rfl, N8, rfl⟩
        have HJ8 := Lib.hid (HJ7.out.below (below_drewN _ _ N8))
        have HB8 := Lib.hid (HB7.out.trans ((below_drewN _ _ N8).mono HB7.out.size))
        obtain ⟨w8, e8⟩ : ∃ w8, w8 = w7.drewN N8 := ⟨_, rfl⟩
        rw [← e8] at HJ8 HB8 ⊢
        clear e8 HRO7
        go_wp2_with fail
        go_loopw [14] (fun iv wr => ∃ j : Nat, iv = .int .i64 (j : Int) ∧ j ≤ 12 ∧ Below w8.heap.size w8 wr) (fun iv _ => 12 - (intOf iv).toNat)
        case atStart => exact ⟨0, rfl, Nat.zero_le _, Below.refl _ _⟩
        case round =>
          obtain ⟨j, rfl, hj, hbr⟩ := hrel
          have hjr := HJ8.out.below hbr
          by_cases hj12 : j < 12
          · have hrd := dk_read hjr.1 (by omega) (j : Int) (by omega) (by omega)
            rw [HCON.out] at hrd
            have HRD := Lib.hid hrd
            have HBR := Lib.hid hbr
            have hjI : (j : Int) < 12 := by omega
            have hj0 : (0 : Int) ≤ (j : Int) := by omega
            clear hjr hrd hbr
            go_wp2_with fail
            go_at_call 27
            (with_reducible refine (HRD.out).mono ?_)
            rintro e w9 ⟨g9, rfl, hb9, hg9, hl9, hbw9⟩
            have hz32 : zero32.length = 32 := by decide
            obtain ⟨S, eS⟩ : ∃ S : ByteArray, S = ⟨zero32.toArray⟩ := ⟨_, rfl⟩
            have hcv1 := conv_at (cap := 32) (w := w9.drew) (fun i b h => hb9 i b h) (by rw [hz32]; omega)
            have hcv2 := conv_at (cap := 32) (w := (w9.alloc (.cells (bytesV zero32).toArray 5)).drew) (fun i b h => BytesAt.alloc hb9 _ i b h) (by rw [hz32]; omega)
            have hcv3 := conv_at (cap := 32) (A := some ⟨w9.heap.size, 0, none⟩) (l := zero32) (w := (w9.alloc (.cells (bytesV zero32).toArray 5)).drew) (fun i b h => BytesAt.lit (w := w9) (fr := (0, 0)) (by simp) i b h) (by rw [hz32]; omega)
            rw [hz32, ← eS] at hcv1 hcv2 hcv3
            have hmk := run_make32 w9.drew
            have s1 : (S.toList == S.toList) = true := by simp
            obtain ⟨C32, eC⟩ : ∃ C, C = (bytesV zero32).toArray := ⟨_, rfl⟩
            rw [← eC] at hcv2 hcv3 hmk
            have HB9 := Lib.hid (HBR.out.trans (hbw9.mono HBR.out.size))
            have hb10 : Below w8.heap.size w8 ((w9.alloc (.cells C32 5)).drew) := (HB9.out.alloc HB9.out.size _).drew
            have HB10 := Lib.hid hb10
            clear hb9 hg9 hl9 hbw9 hz32 eS eC hb10
            go_wp2_with fail
            go_region
            go_wp2_with fail
            go_roundw
            case rel => exact ⟨j + 1, by go_num, by omega, HB10.out⟩
            case measure => simp [intOf]; omega
          · have hj2 : ¬ (j : Int) < 12 := by omega
            have hj3 : (j : Int) ≤ 12 := by omega
            have hbq : BytesAt wr B0 mo := HB0.out.below (HB8.out.trans (hbr.mono HB8.out.size))
            have HJR := Lib.hid hjr
            have HBR := Lib.hid hbr
            have hlf := length_frame mo
            by_cases hrec : RecOk mo
            · by_cases hf : q + 7 ≤ 192
              · have hap := js_append hjr (by omega) (by omega) (by omega) B0 mo cb hbq hrec (by rw [hlf, ← EQ.out]; simp [frames]; omega)
                rw [← EQ.out] at hap
                have HAP := Lib.hid hap
                have g1 : decide (1 ≤ (q : Int)) = true := by simp; have := hrec.1; have := EQ.out; omega
                have g2 : decide ((q : Int) + 7 ≤ 192) = true := by simp; omega
                have q1 : IntKind.i64.wrap ((q : Int) + 7) = (q : Int) + 7 := IntWalk.i64_in _ (by omega)
                clear hjr hbr hbq hrec hf hap hlf
                go_wp2_with fail
                go_at_call 12
                (with_reducible refine (HAP.out).mono ?_)
                rintro e w9 ⟨rfl, Z9, hj9, hz9, ht9⟩
                have hb9 : Below w.heap.size w w9 := turned_new (HB8.out.trans (HBR.out.mono HB8.out.size)) (fun j hj => HGE6.out j hj) ht9
                have HB9 := Lib.hid hb9
                clear hj9 hz9 ht9 hb9
                go_wp2_with fail
                go_ret
                exact ⟨rfl, HB9.out⟩
              · have hap := js_append_full hjr (by omega) B0 mo cb hbq hrec (by rw [hlf, ← EQ.out]; simp [frames]; omega)
                rw [← EQ.out] at hap
                have HAP := Lib.hid hap
                have g1 : decide (1 ≤ (q : Int)) = true := by simp; have := hrec.1; have := EQ.out; omega
                have g2 : decide ((q : Int) + 7 ≤ 192) = false := by simp; omega
                have q1 : IntKind.i64.wrap ((q : Int) + 7) = (q : Int) + 7 := IntWalk.i64_in _ (by omega)
                clear hjr hbr hbq hrec hf hap hlf
                go_wp2_with fail
                go_at_call 12
                (with_reducible refine (HAP.out).mono ?_)
                rintro e w9 ⟨rfl, hb9⟩
                have HB9 := Lib.hid ((HB8.out.trans (HBR.out.mono HB8.out.size)).trans (hb9.mono (HB8.out.trans (HBR.out.mono HB8.out.size)).size))
                clear hb9
                go_wp2_with fail
                go_ret
                exact ⟨rfl, HB9.out⟩
            · have hap := jp_append_no pj B0 mo cb wr (by unfold maxLen; have := EQ.out; omega) hrec
              rw [← EQ.out] at hap
              have HAP := Lib.hid hap
              have hq : q = 0 ∨ 4096 < q := by
                have := EQ.out
                unfold RecOk at hrec
                omega
              have q1 : IntKind.i64.wrap ((q : Int) + 7) = (q : Int) + 7 := IntWalk.i64_in _ (by omega)
              have hbw : Below w.heap.size w wr := HB8.out.trans (HBR.out.mono HB8.out.size)
              have HBW9 := Lib.hid hbw
              rcases hq with hq | hq
              · have g1 : decide (1 ≤ (q : Int)) = false := by simp; omega
                clear hjr hbr hbq hrec hap hlf hq hbw
                go_wp2_with fail
                go_at_call 12
                (with_reducible refine (HAP.out).mono ?_)
                rintro e w9 ⟨rfl, rfl⟩
                go_wp2_with fail
                go_ret
                exact ⟨rfl, HBW9.out⟩
              · have g1 : decide (1 ≤ (q : Int)) = true := by simp; omega
                have g2 : decide ((q : Int) + 7 ≤ 192) = false := by simp; omega
                clear hjr hbr hbq hrec hap hlf hq hbw
                go_wp2_with fail
                go_at_call 12
                (with_reducible refine (HAP.out).mono ?_)
                rintro e w9 ⟨rfl, rfl⟩
                go_wp2_with fail
                go_ret
                exact ⟨rfl, HBW9.out⟩
end Go.Proofs.Ytpfdlcogldbocaa

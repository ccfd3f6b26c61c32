/-
  The walk of JournalPlays: it returns true and touches nothing that was there. Conditions: the region's numbers and the operations are as the arguments' reader reads them.
-/
import Derived.Test.YtpfdlcogldbocaaJplay
import Derived.Test.YtpfdlcogldbocaaJwith
import Derived.Deep.CutBlock
import Derived.Deep.QuietTactic
import Derived.BigQuiet
import Derived.Deep.RegionHeld3
namespace Go.Proofs.Ytpfdlcogldbocaa
open Go.RowKit Go.Deep Go.Maps

set_option maxRecDepth 100000 in
set_option maxHeartbeats 1000000 in
theorem plays_no (x y : Int) (v : Value) (w : World) (wx : (Lit.int .i64 x).wf = true) (wy : (Lit.int .i64 y).wf = true) (hno : NoReg 12 x y) :
    Calls Try.prog 3 #[.agg #[.int .i64 x, .int .i64 y], v] w (TrueIs w) := by
  have hno2 : NoRegion 12 x y := by
    unfold NoReg at hno
    unfold NoRegion
    omega
  obtain ⟨w0, ew0⟩ : ∃ w0, w0 = w.alloc (.cells #[.int .i64 x, .int .i64 y] 23) := ⟨_, rfl⟩
  have hb0 : Below w.heap.size w w0 := by rw [ew0]; exact (Below.refl _ _).alloc (Nat.le_refl _) _
  have hlt : w.heap.size < w0.heap.size := by rw [ew0]; simp
  have hbx : w0.heap[w.heap.size]? = some (.cells #[.int .i64 x, .int .i64 y] 23 (0, 0)) := by rw [ew0]; exact heap_alloc_new w _
  have hn := dk_new 12 w0 (by omega) (by omega)
  have hr := fun w => rk_new 12 w (by omega) (by omega)
  rw [show ((12 : Nat) : Int) = 12 from rfl] at hn hr
  have HN := Lib.hid hn
  have HR := Lib.hid hr
  have HNO := Lib.hid hno
  have HNO2 := Lib.hid hno2
  have HB0 := Lib.hid hb0
  have HLT := Lib.hid hlt
  have HBX := Lib.hid hbx
  have EW0 := Lib.hid ew0
  have WX := Lib.hid wx
  have WY := Lib.hid wy
  clear hn hr hno hno2 hb0 hlt hbx ew0 wx wy
  go_enter Try.func3, Try.ntmps3
  go_wp2_with fail
  rw [← EW0.out]
  go_at_call 7
  (with_reducible refine HN.out.mono ?_)
  rintro e w1 ⟨p, rfl, hd1, hb1⟩
  have HD1 := Lib.hid hd1
  have HB1 := Lib.hid hb1
  clear hd1 hb1
  go_wp2_with fail
  go_at_call 8
  (with_reducible refine (HR.out _).mono ?_)
  rintro e w2 ⟨q, rfl, hr2, hb2⟩
  have HR2 := Lib.hid hr2
  have HB2 := Lib.hid hb2
  clear hr2 hb2
  go_wp2_with fail
  go_at_call 9
  (with_reducible refine (alive_any w2).mono ?_)
  rintro e w3 ⟨rfl, hb3⟩
  have hb13 : Below w1.heap.size w1 w3 := HB2.out.trans (hb3.mono HB2.out.size)
  have hb03 : Below w0.heap.size w0 w3 := HB1.out.trans (hb13.mono HB1.out.size)
  have c0 : w3.cell? ⟨w.heap.size, 0, none⟩ = some (.int .i64 x) := (hb03.cell (p := ⟨w.heap.size, 0, none⟩) HLT.out).trans (cell_of_row _ _ 0 _ _ _ HBX.out)
  have c1 : w3.cell? ⟨w.heap.size, 1, none⟩ = some (.int .i64 y) := (hb03.cell (p := ⟨w.heap.size, 1, none⟩) HLT.out).trans (cell_of_row _ _ 1 _ _ _ HBX.out)
  have HO := Lib.hid (jp_open_no (HD1.out.below hb13) (by omega) x y WX.out WY.out HNO.out)
  have HO2 := Lib.hid (jref_open_no (HR2.out.below hb3) (by omega) x y WX.out WY.out HNO2.out)
  have HB3 := Lib.hid (HB0.out.trans (hb03.mono HB0.out.size))
  clear hb3 hb13 hb03
  go_wp2_with fail
  go_at_call 10
  (with_reducible refine HO.out.mono ?_)
  rintro e w' ⟨rfl, rfl⟩
  go_wp2_with fail
  go_at_call 11
  (with_reducible refine HO2.out.mono ?_)
  rintro e w' ⟨rfl, rfl⟩
  go_wp2_with fail
  go_ret
  exact ⟨rfl, HB3.out⟩

def PlayRel (w0 : World) (f k : Nat) (dv mv jv kv iv : Value) (wr : World) : Prop :=
  ∃ (i : Nat) (F : Int → Option (List UInt8)) (cs : List CallM) (ls : List (List UInt8)) (p pj g q kj : Nat) (Z Y YJ : Nat → Prop), iv = .int .i64 (i : Int) ∧ i ≤ 30 ∧ dv = .pointer (some ⟨p, 0, none⟩) ∧ mv = .pointer (some ⟨q, 0, none⟩) ∧ jv = .pointer (some ⟨pj, 0, none⟩) ∧ kv = .pointer (some ⟨kj, 0, none⟩) ∧
    Play w0 wr f k F cs cs ls ls (100 + 40 * i) p pj g q kj Z Y YJ
/-- Behind the operation's own calls. -/
def PlayMid (w0 : World) (f k m : Nat) (dv mv jv kv gv : Value) (_wr wx : World) : Prop :=
  ∃ (F : Int → Option (List UInt8)) (cs : List CallM) (ls : List (List UInt8)) (p pj g q kj : Nat) (Z Y YJ : Nat → Prop), gv = .bool true ∧ dv = .pointer (some ⟨p, 0, none⟩) ∧ mv = .pointer (some ⟨q, 0, none⟩) ∧ jv = .pointer (some ⟨pj, 0, none⟩) ∧ kv = .pointer (some ⟨kj, 0, none⟩) ∧
    Play w0 wx f k F cs cs ls ls m p pj g q kj Z Y YJ

set_option maxRecDepth 100000 in
set_option maxHeartbeats 8000000 in
theorem plays_in (f k : Nat) (h1 : 1 ≤ k) (hfk : f + k ≤ 12) (SA : Option Addr) (os : List OpM) (scap : Nat) (w : World) (hos : OpsAt w SA os) (_hlen : os.length ≤ maxLen) :
    Calls Try.prog 3 #[.agg #[.int .i64 (f : Int), .int .i64 (k : Int)], .slice SA os.length scap] w (TrueIs w) := by
  obtain ⟨w0, ew0⟩ : ∃ w0, w0 = w.alloc (.cells #[.int .i64 (f : Int), .int .i64 (k : Int)] 23) := ⟨_, rfl⟩
  have hb0 : Below w.heap.size w w0 := by rw [ew0]; exact (Below.refl _ _).alloc (Nat.le_refl _) _
  have hlt : w.heap.size < w0.heap.size := by rw [ew0]; simp
  have hbx : w0.heap[w.heap.size]? = some (.cells #[.int .i64 (f : Int), .int .i64 (k : Int)] 23 (0, 0)) := by rw [ew0]; exact heap_alloc_new w _
  have hbc : ∀ wr, Below w0.heap.size w0 wr → wr.cell? ⟨w.heap.size, 0, none⟩ = some (.int .i64 (f : Int)) ∧ wr.cell? ⟨w.heap.size, 1, none⟩ = some (.int .i64 (k : Int)) := fun wr hb =>
    ⟨(hb.cell (p := ⟨w.heap.size, 0, none⟩) hlt).trans (cell_of_row _ _ 0 _ _ _ hbx), (hb.cell (p := ⟨w.heap.size, 1, none⟩) hlt).trans (cell_of_row _ _ 1 _ _ _ hbx)⟩
  have hn := dk_new 12 w0 (by omega) (by omega)
  have hr := fun w => rk_new 12 w (by omega) (by omega)
  rw [show ((12 : Nat) : Int) = 12 from rfl] at hn hr
  obtain ⟨nl, enl⟩ : ∃ nl, nl = os.length := ⟨_, rfl⟩
  rw [← enl] at _hlen ⊢
  unfold maxLen at _hlen
  have HN := Lib.hid hn
  have HR := Lib.hid hr
  have HB0 := Lib.hid hb0
  have HBC := Lib.hid hbc
  have HOS := Lib.hid hos
  have ENL := Lib.hid enl
  have EW0 := Lib.hid ew0
  have H1 := Lib.hid h1
  have HFK := Lib.hid hfk
  clear hn hr hb0 hlt hbx hbc ew0 hos enl h1 hfk
  go_enter Try.func3, Try.ntmps3
  go_wp2_with fail
  rw [← EW0.out]
  go_at_call 7
  (with_reducible refine HN.out.mono ?_)
  rintro e w1 ⟨p, rfl, hd1, hb1⟩
  have HD1 := Lib.hid hd1
  have HB1 := Lib.hid hb1
  clear hd1 hb1
  go_wp2_with fail
  go_at_call 8
  (with_reducible refine (HR.out _).mono ?_)
  rintro e w2 ⟨q, rfl, hr2, hb2⟩
  have hds : Disks w0 w2 (fun _ => none) [] 0 p q (fun j => w0.heap.size ≤ j ∧ j < w1.heap.size) (fun j => w1.heap.size ≤ j ∧ j < w2.heap.size) :=
    ⟨HD1.out.below hb2, hr2, fun c hc => (by cases hc), fun j hj hy => by omega, fun j hj => by have := HB1.out.size; omega, HB1.out.trans (hb2.mono HB1.out.size)⟩
  have HDS := Lib.hid hds
  clear hr2 hb2 hds
  go_wp2_with fail
  go_at_call 9
  (with_reducible refine (alive_any w2).mono ?_)
  rintro e w3 ⟨rfl, hb3⟩
  have hds3 := HDS.out.later hb3
  obtain ⟨c0, c1⟩ := HBC.out w3 hds3.below
  have HO := Lib.hid (play_open1 hds3 (by have := HFK.out; omega) H1.out HFK.out)
  clear hb3 hds3
  go_wp2_with fail
  go_at_call 10
  (with_reducible refine HO.out.mono ?_)
  rintro e w4 ⟨pj, g, Z4, ls, u, rfl, hs4, hh4⟩
  obtain ⟨c0', c1'⟩ := HBC.out w4 hh4.below
  have HO2 := Lib.hid (play_open2 hh4 hs4 (fun c hc => by cases hc) (by simp) H1.out HFK.out)
  clear hs4 hh4 c0 c1
  go_wp2_with fail
  go_at_call 11
  (with_reducible refine HO2.out.mono ?_)
  rintro e w5 ⟨kj, Y5, YJ5, rfl, hp5⟩
  have hst : PlayRel w0 f k (.pointer (some ⟨p, 0, none⟩)) (.pointer (some ⟨q, 0, none⟩)) (.pointer (some ⟨pj, 0, none⟩)) (.pointer (some ⟨kj, 0, none⟩)) (.int .i64 0) w5 :=
    ⟨0, _, _, _, p, pj, g, q, kj, _, _, _, rfl, by omega, rfl, rfl, rfl, rfl, hp5.more (by have := HFK.out; omega)⟩
  have HST := Lib.hid hst
  clear hp5 hst c0' c1'
  go_wp2_with fail
  go_loopw [5, 7, 9, 11, 13] (fun dv mv jv kv iv wr => PlayRel w0 f k dv mv jv kv iv wr) (fun _ _ _ _ iv _ => 30 - (intOf iv).toNat)
  case atStart => exact HST.out
  case round =>
    obtain ⟨i, F, cs, ls, p, pj, g, q, kj, Z, Y, YJ, rfl, hi, rfl, rfl, rfl, rfl, hP⟩ := hrel
    obtain ⟨wo, rfl⟩ : ∃ wo, wo = wr := ⟨_, rfl⟩
    have HP := Lib.hid hP
    by_cases hio : i < nl ∧ i < 30
    · obtain ⟨hi1, hi2⟩ := hio
      obtain ⟨o, ho⟩ : ∃ o, os[i]? = some o := ⟨os[i]'(by have := ENL.out; omega), List.getElem?_eq_getElem _⟩
      obtain ⟨⟨hob, hok, wk, wn, wt, hbc, hbm, hkm⟩, sg, so, rfl, hrange⟩ := HOS.out i o ho
      have hbel : Below w.heap.size w wo := HB0.out.trans (hP.below.mono HB0.out.size)
      have lsg := World.block_lt_of_cell? w _ (hrange 0 _ rfl)
      have kc : ∀ j u, o.cells[j]? = some u → wo.cell? ⟨sg, so + i * 5 + j, none⟩ = some u := fun j u hu => (hbel.cell (p := ⟨sg, so + i * 5 + j, none⟩) lsg).trans (hrange j u hu)
      obtain ⟨bl, ebl⟩ : ∃ bl, bl = o.b.length := ⟨_, rfl⟩
      obtain ⟨kl, ekl⟩ : ∃ kl, kl = o.keep.length := ⟨_, rfl⟩
      have k0 : wo.cell? ⟨sg, so + i * 5, none⟩ = some (.int .i64 o.kind) := kc 0 _ rfl
      have k1 : wo.cell? ⟨sg, so + i * 5 + 1, none⟩ = some (.int .i64 o.n) := kc 1 _ rfl
      have k2 : wo.cell? ⟨sg, so + i * 5 + 2, none⟩ = some (.slice o.A o.b.length o.bcap) := kc 2 _ rfl
      have k3 : wo.cell? ⟨sg, so + i * 5 + 3, none⟩ = some (.slice o.K o.keep.length o.kcap) := kc 3 _ rfl
      have k4 : wo.cell? ⟨sg, so + i * 5 + 4, none⟩ = some (.int .i64 o.torn) := kc 4 _ rfl
      rw [← ebl] at k2
      rw [← ekl] at k3
      have hAw : 0 < o.b.length → ∀ g o', o.A = some ⟨g, o', none⟩ → g < w0.heap.size := fun hl g o' e => by
        obtain ⟨g2, o2, e2, hc⟩ := hob 0 _ (List.getElem?_eq_getElem hl)
        rw [e] at e2
        cases e2
        have h1 : g < w.heap.size := World.block_lt_of_cell? w _ hc
        have h2 := HB0.out.size
        omega
      have hiI : (i : Int) < (nl : Int) := by omega
      have hi0 : (0 : Int) ≤ (i : Int) := by omega
      have hi30 : (i : Int) < 30 := by omega
      -- the box
      obtain ⟨WB, eWB⟩ : ∃ WB, WB = wo.alloc (.cells #[.int .i64 o.kind, .int .i64 o.n, .slice o.A bl o.bcap, .slice o.K kl o.kcap, .int .i64 o.torn] 42) := ⟨_, rfl⟩
      have hbB : Below wo.heap.size wo WB := by rw [eWB]; exact (Below.refl _ _).alloc (Nat.le_refl _) _
      have hWBs : WB.heap.size = wo.heap.size + 1 := by rw [eWB]; simp
      have hBox : WB.heap[wo.heap.size]? = some (.cells #[.int .i64 o.kind, .int .i64 o.n, .slice o.A bl o.bcap, .slice o.K kl o.kcap, .int .i64 o.torn] 42 (0, 0)) := by rw [eWB]; exact heap_alloc_new wo _
      have hPB := hP.later hbB
      have hgo : ¬ (Z wo.heap.size ∨ wo.heap.size = pj ∨ wo.heap.size = g) ∧ ¬ (Y wo.heap.size ∨ wo.heap.size = kj) := by
        refine ⟨fun h => Nat.lt_irrefl _ (hP.j.lt _ h), fun h => ?_⟩
        rcases h with h | h
        · exact Nat.lt_irrefl _ (hP.r.zlt _ h)
        · obtain ⟨_, _, _, _, h3, h4⟩ := hP.rj
          have := h4 kj h3
          omega
      have HOB := Lib.hid (hob.below hbel)
      have HOBW := Lib.hid hob
      have HOKW := Lib.hid hok
      have HAW := Lib.hid hAw
      have HBEL := Lib.hid hbel
      have HPB := Lib.hid hPB
      have HBB := Lib.hid hbB
      have HWBS := Lib.hid hWBs
      have HBOX := Lib.hid hBox
      have HGO := Lib.hid hgo
      have HEWB := Lib.hid eWB
      have EBL := Lib.hid ebl
      have EKL := Lib.hid ekl
      have WT := Lib.hid wt
      have HKM := Lib.hid hkm
      have HBCAP := Lib.hid hbc
      clear hP hob hok wk wn wt hbc hbm hkm hrange hbel lsg kc ho ebl ekl hAw eWB hbB hWBs hBox hPB hgo
      by_cases hx : 500 < bl
      · have hxI : decide (500 < (bl : Int)) = true := by simp; omega
        clear hx
        go_wp2_with fail
        go_ret
        exact ⟨rfl, HBEL.out.trans ((HEWB.out ▸ HBB.out).mono HBEL.out.size)⟩
      · have hxI : decide (500 < (bl : Int)) = false := by simp; omega
        have hbl5 : bl ≤ 500 := by omega
        clear hx
        go_upto_block 2 with fail
        rw [← HEWB.out]
        have hmi : (cs.length : Int) ≤ 2000 := by have := HPB.out.j.1.len; omega
        have hml : cs.length ≤ 2000 := by omega
        have HML := Lib.hid hml
        have hkm : k ≤ 12 := by have := HFK.out; omega
        have HKM12 := Lib.hid hkm
        clear hmi hml hkm
        go_cut [5, 7, 9, 10, 11, 12, 15] from 99 to 185 (fun dv mv jv _ kv _ gv wx => PlayMid w0 f k (140 + 40 * i) dv mv jv kv gv WB wx)
        case first =>
          have b0 : WB.cell? ⟨wo.heap.size, 0, none⟩ = some (.int .i64 o.kind) := cell_of_row _ _ 0 _ _ _ HBOX.out
          have b1 : WB.cell? ⟨wo.heap.size, 1, none⟩ = some (.int .i64 o.n) := cell_of_row _ _ 1 _ _ _ HBOX.out
          have b2 : WB.cell? ⟨wo.heap.size, 2, none⟩ = some (.slice o.A bl o.bcap) := cell_of_row _ _ 2 _ _ _ HBOX.out
          have b3 : WB.cell? ⟨wo.heap.size, 3, none⟩ = some (.slice o.K kl o.kcap) := cell_of_row _ _ 3 _ _ _ HBOX.out
          have b4 : WB.cell? ⟨wo.heap.size, 4, none⟩ = some (.int .i64 o.torn) := cell_of_row _ _ 4 _ _ _ HBOX.out
          clear k0 k1 k2 k3 k4
          by_cases hk1 : o.kind = 1
          · -- Append
            have e1 : (o.kind == 1) = true := by simp [hk1]
            have hPd := HPB.out.later (Below.refl _ WB).drew
            have hbA : BytesAt WB.drew o.A o.b := fun j b hj => (HOB.out.below HBB.out) j b hj
            have hlf := length_frame o.b
            clear hk1 b0 b1 b3 b4
            by_cases hrec : RecOk o.b
            · by_cases hf : (frames ls).length + (frame o.b).length ≤ 32 * k
              · have hw1 := play_append1 hPd (by have := HKM12.out; omega) HFK.out o.A o.b o.bcap hbA hrec hf
                rw [← EBL.out] at hw1
                have HW1 := Lib.hid hw1
                have HW2 := Lib.hid fun (w4 : World) (Z4 : Nat → Prop) (h4 : Play w0 w4 f k F (cs ++ wto (nextOf (reg (con F cs) f k) o.b (frames ls).length) f ((frames ls).length / 32) (wrote (frames ls).length (frame o.b).length)) cs (ls ++ [o.b]) ls (100 + 40 * i + k) p pj g q kj Z4 Y YJ) =>
                  play_append2 h4 HPB.out.j.1.ok (by have := HML.out; omega) HFK.out o.A o.b o.bcap (HOBW.out.below (HB0.out.trans (h4.below.mono HB0.out.size))) HAW.out hrec hf
                rw [← EBL.out] at HW2
                clear hPd hbA hlf hrec hf hw1
                go_wp2_with fail
                go_region_held3 (fun x => x.cell? ⟨wo.heap.size, 2, none⟩ = some (.slice o.A bl o.bcap))
                  ((first | assumption | exact b2 | exact ht4.cell (a := WB.drew) b2 HGO.out.1 | exact ht5.cell (ht4.cell (a := WB.drew) b2 HGO.out.1) HGO.out.2))
                  (first
                    | (go_at_call 12; (with_reducible refine HW1.out.mono ?_); rintro e w4 ⟨rfl, Z4, hp4, ht4⟩)
                    | (go_at_call 13; (with_reducible refine (HW2.out _ _ hp4).mono ?_); rintro e w5 ⟨rfl, Y5, YJ5, hp5, ht5⟩))
                have HP5 := Lib.hid (hp5.more (m' := 140 + 40 * i) (by have := HKM12.out; omega))
                clear hp4 ht4 hp5 ht5 b2
                go_wp2_with fail
                go_meet
                exact ⟨_, _, _, _, _, _, _, _, _, _, _, rfl, rfl, rfl, rfl, rfl, HP5.out⟩
              · have hw1 := js_append_full hPd.j (by have := HKM12.out; omega) o.A o.b o.bcap hbA hrec (by omega)
                rw [← EBL.out] at hw1
                have HW1 := Lib.hid hw1
                have hfits := hPd.j.2.2.2.2.1
                have HW2 := Lib.hid fun (w4 : World) (h4 : Below WB.drew.heap.size WB.drew w4) =>
                  jref_append_full ((hPd.later h4).rj) (by have := HKM12.out; omega) o.A o.b o.bcap (HOBW.out.below (HB0.out.trans ((hPd.later h4).below.mono HB0.out.size))) hrec hfits (by omega)
                rw [← EBL.out] at HW2
                have HPD := Lib.hid hPd
                clear hPd hbA hlf hrec hf hw1 hfits
                go_wp2_with fail
                go_region_held3 (fun x => x.cell? ⟨wo.heap.size, 2, none⟩ = some (.slice o.A bl o.bcap))
                  ((first | assumption | exact b2 | exact (hb4.cell (p := ⟨wo.heap.size, 2, none⟩) (World.block_lt_of_cell? WB _ b2)).trans b2 | exact ((hb4.trans (hb5.mono hb4.size)).cell (p := ⟨wo.heap.size, 2, none⟩) (World.block_lt_of_cell? WB _ b2)).trans b2))
                  (first
                    | (go_at_call 12; (with_reducible refine HW1.out.mono ?_); rintro e w4 ⟨rfl, hb4⟩)
                    | (go_at_call 13; (with_reducible refine (HW2.out _ hb4).mono ?_); rintro e w5 ⟨rfl, hb5⟩))
                have HP5 := Lib.hid ((HPD.out.later (hb4.trans (hb5.mono hb4.size))).more (m' := 140 + 40 * i) (by omega))
                clear hb4 hb5 b2
                go_wp2_with fail
                go_meet
                exact ⟨_, _, _, _, _, _, _, _, _, _, _, rfl, rfl, rfl, rfl, rfl, HP5.out⟩
            · have hw1 := jp_append_no pj o.A o.b o.bcap WB.drew (by have := EBL.out; unfold maxLen; omega) hrec
              have hw2 := jref_append_no (.pointer (some ⟨kj, 0, none⟩)) o.A o.b o.bcap WB.drew (by have := EBL.out; unfold maxLen; omega) hrec
              rw [← EBL.out] at hw1 hw2
              have HW1 := Lib.hid hw1
              have HW2 := Lib.hid hw2
              have HPD := Lib.hid hPd
              clear hPd hbA hlf hrec hw1 hw2
              go_wp2_with fail
              go_region_held3 (fun x => x.cell? ⟨wo.heap.size, 2, none⟩ = some (.slice o.A bl o.bcap))
                ((first | assumption | exact b2))
                (first
                  | (go_at_call 12; (with_reducible refine HW1.out.mono ?_); rintro e w4 ⟨rfl, rfl⟩)
                  | (go_at_call 13; (with_reducible refine HW2.out.mono ?_); rintro e w5 ⟨rfl, rfl⟩))
              have HP5 := Lib.hid (HPD.out.more (m' := 140 + 40 * i) (by omega))
              clear b2
              go_wp2_with fail
              go_meet
              exact ⟨_, _, _, _, _, _, _, _, _, _, _, rfl, rfl, rfl, rfl, rfl, HP5.out⟩
          · have e1 : (o.kind == 1) = false := by simp [hk1]
            by_cases hk2 : o.kind = 2
            · have e2 : (o.kind == 2) = true := by simp [hk2]
              have HW1 := Lib.hid (play_sync1 HPB.out (by omega))
              clear hk1 hk2 b0 b1 b2 b3 b4
              go_wp2_with fail
              go_at_call 14
              (with_reducible refine HW1.out.mono ?_)
              rintro e w4 ⟨rfl, Z4, hp4⟩
              have HW2 := Lib.hid (play_sync2 hp4 (by have := HML.out; omega))
              clear hp4
              go_wp2_with fail
              go_at_call 15
              (with_reducible refine HW2.out.mono ?_)
              rintro e w5 ⟨rfl, Y5, hp5⟩
              have HP5 := Lib.hid (hp5.more (m' := 140 + 40 * i) (by omega))
              clear hp5
              go_wp2_with fail
              go_meet
              exact ⟨_, _, _, _, _, _, _, _, _, _, _, rfl, rfl, rfl, rfl, rfl, HP5.out⟩
            · have e2 : (o.kind == 2) = false := by simp [hk2]
              by_cases hk5 : o.kind = 5
              · have e5 : (o.kind == 5) = true := by simp [hk5]
                have e3 : (o.kind == 3) = false := by simp [hk5]
                have e4 : (o.kind == 4) = false := by simp [hk5]
                have HW1 := Lib.hid (play_clear1 HPB.out (by have := HKM12.out; omega) HFK.out)
                clear hk1 hk2 hk5 b0 b1 b2 b3 b4
                go_wp2_with fail
                go_at_call 21
                (with_reducible refine HW1.out.mono ?_)
                rintro e w4 ⟨rfl, Z4, hp4⟩
                have HW2 := Lib.hid (play_clear2 hp4 HPB.out.j.1.ok (by have := HML.out; omega) HFK.out)
                clear hp4
                go_wp2_with fail
                go_at_call 22
                (with_reducible refine HW2.out.mono ?_)
                rintro e w5 ⟨rfl, Y5, hp5⟩
                have HP5 := Lib.hid (hp5.more (m' := 140 + 40 * i) (by have := HKM12.out; omega))
                clear hp5
                go_wp2_with fail
                go_meet
                exact ⟨_, _, _, _, _, _, _, _, _, _, _, rfl, rfl, rfl, rfl, rfl, HP5.out⟩
              · have e5 : (o.kind == 5) = false := by simp [hk5]
                have hDd := (HPB.out.disks).later (Below.refl _ WB).drew
                by_cases hk4 : o.kind = 4
                · have e4 : (o.kind == 4) = true := by simp [hk4]
                  have e3 : (o.kind == 3) = false := by simp [hk4]
                  have hbA : BytesAt WB.drew o.A o.b := fun j b hj => (HOB.out.below HBB.out) j b hj
                  obtain ⟨wc4, ewc⟩ : ∃ wc4, wc4 = wCode 12 o.n o.b := ⟨_, rfl⟩
                  have hw1 := disks_write1 hDd (by omega) o.n o.b o.A o.bcap bl EBL.out hbA (by rw [EBL.out]; exact HBCAP.out) HAW.out
                  rw [← ewc] at hw1
                  have HW1 := Lib.hid hw1
                  have HW2 := Lib.hid fun (w4 : World) (Z4 : Nat → Prop) (h4 : DisksX w0 w4 F F cs (wCs 12 cs o.n o.b) (100 + 40 * i + 1) p q Z4 Y) =>
                    disks_write2 h4 HPB.out.pos (by have := HML.out; omega) o.A o.bcap bl EBL.out (HOBW.out.below (HB0.out.trans (h4.below.mono HB0.out.size))) HAW.out
                  rw [← ewc] at HW2
                  clear hk1 hk2 hk4 hk5 hDd hbA hw1 ewc b3 b4
                  go_wp2_with fail
                  go_region_held3 (fun x => x.cell? ⟨wo.heap.size, 1, none⟩ = some (.int .i64 o.n) ∧ x.cell? ⟨wo.heap.size, 2, none⟩ = some (.slice o.A bl o.bcap))
                    ((go_split_ands; refine ⟨?_, ?_⟩ <;> first | assumption | exact b1 | exact b2 | exact ht4.cell (a := WB.drew) b1 (fun h => HGO.out.1 (.inl h)) | exact ht4.cell (a := WB.drew) b2 (fun h => HGO.out.1 (.inl h)) | exact ht5.cell (ht4.cell (a := WB.drew) b1 (fun h => HGO.out.1 (.inl h))) (fun h => HGO.out.2 (.inl h)) | exact ht5.cell (ht4.cell (a := WB.drew) b2 (fun h => HGO.out.1 (.inl h))) (fun h => HGO.out.2 (.inl h))))
                    (first
                      | (go_at_call 16; (with_reducible refine HW1.out.mono ?_); rintro e w4 ⟨rfl, Z4, hd4, ht4⟩)
                      | (go_at_call 17; (with_reducible refine (HW2.out _ _ hd4).mono ?_); rintro e w5 ⟨rfl, Y5, hd5, ht5⟩))
                  obtain ⟨c0, c1⟩ := HBC.out w5 hd5.below
                  have HO := Lib.hid (play_open1 hd5 (by have := HFK.out; omega) H1.out HFK.out)
                  have HD := Lib.hid hd5
                  clear hd4 ht4 ht5 hd5 b0 b1 b2
                  go_wp2_with fail
                  go_at_call 10
                  (with_reducible refine HO.out.mono ?_)
                  rintro e w8 ⟨pj8, g8, Z8, ls8, u8, rfl, hs8, hh8⟩
                  obtain ⟨c0', c1'⟩ := HBC.out w8 hh8.below
                  have HO2 := Lib.hid (play_open2 hh8 hs8 HD.out.d.ok (by have := HD.out.d.len; omega) H1.out HFK.out)
                  clear hs8 hh8 c0 c1
                  go_wp2_with fail
                  go_at_call 11
                  (with_reducible refine HO2.out.mono ?_)
                  rintro e w9 ⟨kj9, Y9, YJ9, rfl, hp9⟩
                  have HP9 := Lib.hid (hp9.more (m' := 140 + 40 * i) (by have := HFK.out; omega))
                  clear hp9 c0' c1'
                  go_wp2_with fail
                  go_meet
                  exact ⟨_, _, _, _, _, _, _, _, _, _, _, rfl, rfl, rfl, rfl, rfl, HP9.out⟩
                · have e4 : (o.kind == 4) = false := by simp [hk4]
                  by_cases hk3 : o.kind = 3
                  · have e3 : (o.kind == 3) = true := by simp [hk3]
                    have hbK : BoolsAt WB.drew o.K o.keep := fun j b hj => ((HOKW.out.below HBEL.out).below HBB.out) j b hj
                    obtain ⟨nc, enc⟩ : ∃ nc, nc = cs.length := ⟨_, rfl⟩
                    have hca := dk_calls hDd.d
                    have hw1 := disks_cut1 hDd (by omega) o.torn o.K o.kcap kl o.keep EKL.out WT.out hbK (by have := HKM.out; unfold maxLen at this; omega)
                    rw [← enc] at hca hw1
                    have HCA := Lib.hid hca
                    have HW1 := Lib.hid hw1
                    have ENC := Lib.hid enc
                    have lgo : wo.heap.size < WB.heap.size := World.block_lt_of_cell? WB _ b3
                    have hncI : (nc : Int) ≤ 2000 := by have := HML.out; omega
                    clear hk1 hk2 hk3 hk4 hk5 hDd hbK hca hw1 enc b1 b2
                    go_wp2_with fail
                    go_region_held3 (fun x => x.cell? ⟨wo.heap.size, 3, none⟩ = some (.slice o.K kl o.kcap) ∧ x.cell? ⟨wo.heap.size, 4, none⟩ = some (.int .i64 o.torn))
                      ((go_split_ands; refine ⟨?_, ?_⟩ <;> first | assumption | exact b3 | exact b4 | exact (hb4.cell (p := ⟨wo.heap.size, 3, none⟩) lgo).trans b3 | exact (hb4.cell (p := ⟨wo.heap.size, 4, none⟩) lgo).trans b4))
                      (first
                        | (go_at_call 19; (with_reducible refine HCA.out.mono ?_); rintro e w' ⟨rfl, rfl⟩)
                        | (go_at_call 18; (with_reducible refine HW1.out.mono ?_); rintro e w4 ⟨px, κ, Z4, rfl, hsy4, hd4, hb4⟩))
                    have hd4d := hd4.later (Below.refl _ w4).drew
                    obtain ⟨A2, c2, q2⟩ := hd4.r.cell2
                    rw [← ENC.out] at q2
                    have x3 : w4.cell? ⟨wo.heap.size, 3, none⟩ = some (.slice o.K kl o.kcap) := (hb4.cell (p := ⟨wo.heap.size, 3, none⟩) lgo).trans b3
                    have x4 : w4.cell? ⟨wo.heap.size, 4, none⟩ = some (.int .i64 o.torn) := (hb4.cell (p := ⟨wo.heap.size, 4, none⟩) lgo).trans b4
                    have hw2 := disks_cut2 hd4d HPB.out.j.1.f32 HPB.out.j.1.ok HPB.out.pos (by have := HML.out; omega) hsy4 o.K o.kcap kl EKL.out WT.out (HOKW.out.below (HB0.out.trans (hd4d.below.mono HB0.out.size))) (by have := HKM.out; unfold maxLen at this; omega)
                    rw [← ENC.out] at hw2
                    have HW2 := Lib.hid hw2
                    have lgo4 : wo.heap.size < w4.heap.size := World.block_lt_of_cell? w4 _ x3
                    have lq4 : q < w4.heap.size := World.block_lt_of_cell? w4 _ q2
                    clear hsy4 hd4 hb4 hd4d hw2 b3 b4 lgo
                    go_wp2_with fail
                    go_region_held3 (fun x => x.cell? ⟨wo.heap.size, 3, none⟩ = some (.slice o.K kl o.kcap) ∧ x.cell? ⟨wo.heap.size, 4, none⟩ = some (.int .i64 o.torn) ∧ x.cell? ⟨q, 2, none⟩ = some (.slice A2 nc c2))
                      ((go_split_ands; refine ⟨?_, ?_, ?_⟩ <;> first | assumption | exact x3 | exact x4 | exact q2 | exact (hb5.cell (p := ⟨wo.heap.size, 3, none⟩) lgo4).trans x3 | exact (hb5.cell (p := ⟨wo.heap.size, 4, none⟩) lgo4).trans x4 | exact (hb5.cell (p := ⟨q, 2, none⟩) lq4).trans q2))
                      ((go_at_call 20; (with_reducible refine HW2.out.mono ?_); rintro e w5 ⟨py, Y5, rfl, hd5, hb5⟩))
                    obtain ⟨c0, c1⟩ := HBC.out w5 hd5.below
                    have HO := Lib.hid (play_open1 hd5 (by have := HFK.out; omega) H1.out HFK.out)
                    have HD := Lib.hid hd5
                    clear hd5 hb5 b0 x3 x4 q2 lgo4 lq4
                    go_wp2_with fail
                    go_at_call 10
                    (with_reducible refine HO.out.mono ?_)
                    rintro e w8 ⟨pj8, g8, Z8, ls8, u8, rfl, hs8, hh8⟩
                    obtain ⟨c0', c1'⟩ := HBC.out w8 hh8.below
                    have HO2 := Lib.hid (play_open2 hh8 hs8 HD.out.d.ok (by have := HD.out.d.len; omega) H1.out HFK.out)
                    clear hs8 hh8 c0 c1
                    go_wp2_with fail
                    go_at_call 11
                    (with_reducible refine HO2.out.mono ?_)
                    rintro e w9 ⟨kj9, Y9, YJ9, rfl, hp9⟩
                    have HP9 := Lib.hid (hp9.more (m' := 140 + 40 * i) (by have := HFK.out; omega))
                    clear hp9 c0' c1'
                    go_wp2_with fail
                    go_meet
                    exact ⟨_, _, _, _, _, _, _, _, _, _, _, rfl, rfl, rfl, rfl, rfl, HP9.out⟩
                  · have e3 : (o.kind == 3) = false := by simp [hk3]
                    have HP5 := Lib.hid (HPB.out.more (m' := 140 + 40 * i) (by omega))
                    clear hk1 hk2 hk3 hk4 hk5 b0 b1 b2 b3 b4 hDd
                    go_wp2_with fail
                    go_meet
                    exact ⟨_, _, _, _, _, _, _, _, _, _, _, rfl, rfl, rfl, rfl, rfl, HP5.out⟩
        case rest =>
          obtain ⟨F, cs, ls, p, pj, g, q, kj, Z, Y, YJ, rfl, rfl, rfl, rfl, rfl, hP⟩ := hcut
          have hkm := HKM12.out
          have hPd := hP.later (Below.refl _ wc).drew
          have hlen := hP.j.1.len
          obtain ⟨A3, c3, hbx3, hrow3, _, _⟩ := hPd.rj
          have x3 : wc.cell? ⟨kj, 3, none⟩ = some (.slice A3 ls.length c3) := cell_of_row _ _ 3 _ _ _ hbx3
          have lkj : kj < wc.heap.size := World.block_lt_of_cell? wc _ x3
          have hln : ls.length ≤ maxLen := by
            have h1 := hP.j.2.2.2.2.1
            have h2 := length_frames ls
            unfold maxLen
            omega
          have HRE := Lib.hid (js_records hPd.j (by omega))
          have HSM := Lib.hid fun (A5 : Option Addr) (c5 : Nat) (w5 : World) (h5 : RowsAt w5 A5 ls) (hb : Below wc.drew.heap.size wc.drew w5) => same04_any A5 A3 ls c5 c3 ls.length w5 h5 (hrow3.at.below hb) rfl hln
          have HPW := Lib.hid hP
          have HLEN := Lib.hid hlen
          clear hP hPd hlen hbx3 hrow3 hln k0 k1 k2 k3 k4
          go_wp2_with fail
          go_region_held3 (fun x => x.cell? ⟨kj, 3, none⟩ = some (.slice A3 ls.length c3))
            ((first | assumption | exact x3 | exact (hb5.cell (p := ⟨kj, 3, none⟩) lkj).trans x3))
            (first
              | (go_at_call 24; (with_reducible refine HRE.out.mono ?_); rintro e w5 ⟨v5, rfl, hl5, hb5⟩; obtain ⟨A5, c5, rfl, hr5⟩ := hl5.rows)
              | (go_at_call 23; (with_reducible refine (HSM.out A5 c5 _ hr5 hb5).mono ?_); rintro e w6 ⟨rfl, N6, rfl⟩))
          have hb6 : Below wc.heap.size wc (w5.drewN N6) := (Below.refl _ wc).drew.trans (hb5.trans ((below_drewN w5.heap.size w5 N6).mono hb5.size))
          obtain ⟨w6, e6⟩ : ∃ w6, w6 = w5.drewN N6 := ⟨_, rfl⟩
          rw [← e6] at hb6 ⊢
          have hP6 := HPW.out.later hb6
          obtain ⟨r, er⟩ : ∃ r : Int, r = 32 * (k : Int) - ((frames ls).length : Int) := ⟨_, rfl⟩
          obtain ⟨nc, enc⟩ : ∃ nc, nc = cs.length := ⟨_, rfl⟩
          have hro : ∀ N, Calls Try.prog 25 #[.pointer (some ⟨pj, 0, none⟩)] (w6.drewN N) fun e w' => e = .returned (.int .i64 r) ∧ ∃ m, w' = (w6.drewN N).drewN m := fun N => by
            rw [er]
            exact js_room (hP6.later (below_drewN w6.heap.size w6 N)).j (by omega)
          have hro2 : ∀ N, Calls Try.prog 26 #[.pointer (some ⟨kj, 0, none⟩)] (w6.drewN N) fun e w' => e = .returned (.int .i64 r) ∧ ∃ m, w' = (w6.drewN N).drewN m := fun N => by
            rw [er]
            exact jref_room (hP6.later (below_drewN w6.heap.size w6 N)).rj hP6.j.2.2.2.2.1 (by omega)
          have hca : ∀ N, Calls Try.prog 19 #[.pointer (some ⟨p, 0, none⟩)] (w6.drewN N) fun e w' => e = .returned (.int .i64 (nc : Int)) ∧ w' = w6.drewN N := fun N => by
            rw [enc]
            exact (dk_calls (hP6.later (below_drewN w6.heap.size w6 N)).j.1).mono fun e w' h => ⟨h.1, h.2.symm⟩
          obtain ⟨A2, c2, q2⟩ := hP6.r.cell2
          rw [← enc] at q2
          have HRO := Lib.hid hro
          have HRO2 := Lib.hid hro2
          have HCA := Lib.hid hca
          have HP6 := Lib.hid hP6
          have HENC := Lib.hid enc
          clear hl5 hr5 hb5 hb6 e6 hP6 er hro hro2 hca enc x3 lkj
          go_wp2_with fail
          go_quiet (first
            | (go_at_call 25; exact Calls.quiet_of (HRO.out _))
            | (go_at_call 26; exact Calls.quiet_of (HRO2.out _))
            | (go_at_call 19; exact Calls.quiet_of_same (HCA.out _)))
          have hP7 := HP6.out.later (below_drewN w6.heap.size w6 nq)
          obtain ⟨w7, e7⟩ : ∃ w7, w7 = w6.drewN nq := ⟨_, rfl⟩
          rw [← e7] at hP7 ⊢
          have HP7 := Lib.hid hP7
          clear hP7 e7 q2
          go_wp2_with fail
          go_loopw [17] (fun iv wr => ∃ j : Nat, iv = .int .i64 (j : Int) ∧ j ≤ 12 ∧ Below w7.heap.size w7 wr) (fun iv _ => 12 - (intOf iv).toNat)
          case atStart => exact ⟨0, rfl, Nat.zero_le _, Below.refl _ _⟩
          case round =>
            obtain ⟨j, rfl, hj, hbr⟩ := hrel
            have hPr := HP7.out.later hbr
            by_cases hj12 : j < 12
            · have hf32 := hPr.j.1.f32
              have hok := hPr.j.1.ok
              have hrd := dk_read hPr.j.1 (by omega) (j : Int) (by omega) (by omega)
              have hrd2 := fun (w8 : World) (hb : Below wr.heap.size wr w8) => rk_read (hPr.later hb).r hf32 hok (by have := HLEN.out; omega) (by omega) (j : Int) (by omega) (by omega)
              obtain ⟨b, eb⟩ : ∃ b, b = con F cs (j : Int) := ⟨_, rfl⟩
              rw [← eb] at hrd
              simp only [← eb] at hrd2
              have hb32 : b.length = 32 := by rw [eb]; exact con_all32 hf32 hok _
              have HRD := Lib.hid hrd
              have HRD2 := Lib.hid hrd2
              have HB32 := Lib.hid hb32
              have HBR := Lib.hid hbr
              have hjI : (j : Int) < 12 := by omega
              have hj0 : (0 : Int) ≤ (j : Int) := by omega
              clear hPr hf32 hok hrd hrd2 eb hb32 hbr
              go_wp2_with fail
              go_at_call 27
              (with_reducible refine HRD.out.mono ?_)
              rintro e w8 ⟨g8, rfl, hb8, hg8, hl8, hbw8⟩
              have HRD8 := Lib.hid (HRD2.out w8 hbw8)
              have HB8 := Lib.hid hb8
              have HBW8 := Lib.hid hbw8
              clear hb8 hg8 hl8 hbw8
              go_wp2_with fail
              go_at_call 28
              (with_reducible refine HRD8.out.mono ?_)
              rintro e w' ⟨A9, c9, rfl, hb9, hc9, hz9, rfl⟩
              have hse := same_eq (some ⟨g8, 0, none⟩) A9 b 32 c9 w8 HB8.out hb9 (by rw [HB32.out]; omega)
              rw [HB32.out] at hse
              have HSE := Lib.hid hse
              clear hb9 hc9 hz9 hse
              go_wp2_with fail
              go_at_call 29
              (with_reducible refine HSE.out.mono ?_)
              rintro e w' ⟨rfl, rfl⟩
              go_wp2_with fail
              go_roundw
              case rel => exact ⟨j + 1, by go_num, by omega, HBR.out.trans (HBW8.out.mono HBR.out.size)⟩
              case measure => simp [intOf]; omega
            · have hj2 : ¬ (j : Int) < 12 := by omega
              have hj3 : (j : Int) ≤ 12 := by omega
              have HPR := Lib.hid (hPr.more (m' := 100 + 40 * (i + 1)) (by omega))
              clear hPr hbr
              go_wp2_with fail
              go_roundw
              case rel => exact ⟨i + 1, F, cs, ls, p, pj, g, q, kj, Z, Y, YJ, by go_num, by omega, rfl, rfl, rfl, rfl, HPR.out⟩
              case measure => simp [intOf]; omega
    · clear hP
      go_upto_region 10 with fail
      go_cut [80] from 73 to 242 (fun t wx => t = .bool false ∧ wo = wx)
      case first =>
        by_cases hi3 : i < nl
        · have hi4 : decide ((i : Int) < 30) = false := by simp; omega
          have hi5 : (i : Int) < (nl : Int) := by omega
          go_wp2_with fail
          go_meet
          exact ⟨rfl, rfl⟩
        · have hi5 : (nl : Int) ≤ (i : Int) := by omega
          go_wp2_with fail
          go_meet
          exact ⟨rfl, rfl⟩
      case rest =>
        obtain ⟨rfl, rfl⟩ := hcut
        go_wp2_with fail
        go_ret
        exact ⟨rfl, HB0.out.trans (HP.out.below.mono HB0.out.size)⟩

theorem plays_any (x y : Int) (SA : Option Addr) (os : List OpM) (scap : Nat) (w : World) (wx : (Lit.int .i64 x).wf = true) (wy : (Lit.int .i64 y).wf = true) (hos : OpsAt w SA os) (hlen : os.length ≤ maxLen) :
    Calls Try.prog 3 #[.agg #[.int .i64 x, .int .i64 y], .slice SA os.length scap] w (TrueIs w) := by
  by_cases hno : NoReg 12 x y
  · exact plays_no x y _ w wx wy hno
  · unfold NoReg at hno
    obtain ⟨f, rfl⟩ := Int.eq_ofNat_of_zero_le (show 0 ≤ x by omega)
    obtain ⟨k, rfl⟩ := Int.eq_ofNat_of_zero_le (show 0 ≤ y by omega)
    exact plays_in f k (by omega) (by omega) SA os scap w hos hlen
end Go.Proofs.Ytpfdlcogldbocaa

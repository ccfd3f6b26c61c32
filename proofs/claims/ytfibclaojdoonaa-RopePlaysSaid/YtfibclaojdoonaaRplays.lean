/-
  RopePlays, of any package of ropes whose ropes stay when another row turns. Conditions: the package's calls do what RopeApi says, and RopeFar; the acts are as the arguments' reader reads them.
-/
import Derived.Test.YtfibclaojdoonaaRrows
import Derived.Deep.CutBlock
import Derived.Deep.QuietTactic
import Derived.BigQuiet
import Derived.Deep.RegionHeld3
namespace Go.Proofs.Ytfibclaojdoonaa
open Go.RowKit Go.Deep Go.Maps

theorem below_drewn (w : World) (n : Nat) : Below w.heap.size w (w.drewN n) := ⟨rfl, rfl, rfl, Nat.le_refl _, fun _ _ => rfl⟩
section
variable {R : World → Option Addr → List UInt8 → Prop}
def PlRel (R : World → Option Addr → List UInt8 → Prop) (w : World) (v5 v6 iv : Value) (W : World) : Prop :=
  ∃ (i : Nat) (ps : List (Option Addr)) (ls : List (List UInt8)), iv = .int .i64 (i : Int) ∧ i ≤ 40 ∧ ps.length ≤ i + 1 ∧ PlSt R w v5 v6 ps ls W

set_option maxRecDepth 100000 in
set_option maxHeartbeats 40000000 in
theorem plays_any (K : RopeApi R) (F : RopeFar R) (SA : Option Addr) (os : List ActM) (scap : Nat) (n : Int) (w : World) (hn : (Lit.int .i64 n).wf = true) (hos : ActsAt w SA os) (_hlen : os.length ≤ maxLen) :
    Calls Try.prog 3 #[.slice SA os.length scap, .int .i64 n] w (TrueIs w) := by
  obtain ⟨nl, enl⟩ : ∃ nl, nl = os.length := ⟨_, rfl⟩
  rw [← enl] at _hlen ⊢
  unfold maxLen at _hlen
  have HAL := Lib.hid fun (W : World) => alive_any K W
  have HAK := Lib.hid fun (W : World) (p : Option Addr) (l : List UInt8) (s : ByteArray) (hr : R W p l) (hs : s = txt l) => alike_any K hr s hs n hn
  have HSA := Lib.hid (PlSt.start K w)
  have HOS := Lib.hid hos
  have ENL := Lib.hid enl
  clear hos enl hn
  go_enter Try.func3, Try.ntmps3
  go_wp2_with fail
  obtain ⟨w1, ew1⟩ : ∃ w1, w1 = (w.alloc (.cells #[.pointer none] 28)).alloc (.cells #[.string ⟨#[]⟩] 9) := ⟨_, rfl⟩
  rw [← ew1] at HSA ⊢
  have EW1 := Lib.hid ew1
  clear ew1
  go_loopw [5, 6, 7] (fun v5 v6 iv wr => PlRel R w v5 v6 iv wr) (fun _ _ iv _ => 40 - (intOf iv).toNat)
  case atStart => exact ⟨0, _, _, rfl, by omega, by simp, HSA.out⟩
  case round =>
    obtain ⟨i, ps, ls, rfl, hi, hpl, hs⟩ := hrel
    obtain ⟨wo, rfl⟩ : ∃ wo, wo = wr := ⟨_, rfl⟩
    have HS := Lib.hid hs
    by_cases hio : i < nl ∧ i < 40
    · obtain ⟨hi1, hi2⟩ := hio
      obtain ⟨o, ho⟩ : ∃ o, os[i]? = some o := ⟨os[i]'(by have := ENL.out; omega), List.getElem?_eq_getElem _⟩
      obtain ⟨⟨wk, wi, wj, wf, wt, hsm⟩, sg, so, rfl, hrange⟩ := HOS.out i o ho
      have lsg := World.block_lt_of_cell? w _ (hrange 0 _ rfl)
      have kc : ∀ j u, o.cells[j]? = some u → wo.cell? ⟨sg, so + i * 6 + j, none⟩ = some u := fun j u hu => (hs.below.cell (p := ⟨sg, so + i * 6 + j, none⟩) lsg).trans (hrange j u hu)
      have k0 : wo.cell? ⟨sg, so + i * 6, none⟩ = some (.int .i64 o.kind) := kc 0 _ rfl
      have k1 : wo.cell? ⟨sg, so + i * 6 + 1, none⟩ = some (.int .i64 o.i) := kc 1 _ rfl
      have k2 : wo.cell? ⟨sg, so + i * 6 + 2, none⟩ = some (.int .i64 o.j) := kc 2 _ rfl
      have k3 : wo.cell? ⟨sg, so + i * 6 + 3, none⟩ = some (.int .i64 o.from_) := kc 3 _ rfl
      have k4 : wo.cell? ⟨sg, so + i * 6 + 4, none⟩ = some (.int .i64 o.to_) := kc 4 _ rfl
      have k5 : wo.cell? ⟨sg, so + i * 6 + 5, none⟩ = some (.string o.s) := kc 5 _ rfl
      have hiI : (i : Int) < (nl : Int) := by omega
      have hi0 : (0 : Int) ≤ (i : Int) := by omega
      have hi40 : (i : Int) < 40 := by omega
      -- the box
      obtain ⟨WB, eWB⟩ : ∃ WB, WB = wo.alloc (.cells #[.int .i64 o.kind, .int .i64 o.i, .int .i64 o.j, .int .i64 o.from_, .int .i64 o.to_, .string o.s] 26) := ⟨_, rfl⟩
      have hbB : Below wo.heap.size wo WB := by rw [eWB]; exact (Below.refl _ _).alloc (Nat.le_refl _) _
      have hWBs : WB.heap.size = wo.heap.size + 1 := by rw [eWB]; simp
      have hBox : WB.heap[wo.heap.size]? = some (.cells #[.int .i64 o.kind, .int .i64 o.i, .int .i64 o.j, .int .i64 o.from_, .int .i64 o.to_, .string o.s] 26 (0, 0)) := by rw [eWB]; exact heap_alloc_new wo _
      have hbox : ∀ W, Below WB.heap.size WB W → W.cell? ⟨wo.heap.size, 0, none⟩ = some (.int .i64 o.kind) ∧ W.cell? ⟨wo.heap.size, 3, none⟩ = some (.int .i64 o.from_) ∧ W.cell? ⟨wo.heap.size, 4, none⟩ = some (.int .i64 o.to_) ∧ W.cell? ⟨wo.heap.size, 5, none⟩ = some (.string o.s) := fun W hB => by
        have h := Below.obj hB hBox (by omega)
        exact ⟨cell_of_row _ _ 0 _ _ _ h, cell_of_row _ _ 3 _ _ _ h, cell_of_row _ _ 4 _ _ _ h, cell_of_row _ _ 5 _ _ _ h⟩
      have b1 : WB.cell? ⟨wo.heap.size, 1, none⟩ = some (.int .i64 o.i) := cell_of_row _ _ 1 _ _ _ hBox
      have b2 : WB.cell? ⟨wo.heap.size, 2, none⟩ = some (.int .i64 o.j) := cell_of_row _ _ 2 _ _ _ hBox
      obtain ⟨b0, b3, b4, b5⟩ := hbox WB (Below.refl _ _)
      -- which ropes
      obtain ⟨m, em⟩ : ∃ m, m = ps.length := ⟨_, rfl⟩
      have hm0 : 0 < m := by rw [em]; exact hs.pos
      have hm41 : m ≤ 41 := by omega
      obtain ⟨x, ex⟩ : ∃ x, x = red o.i m := ⟨_, rfl⟩
      obtain ⟨y, ey⟩ : ∃ y, y = red o.j m := ⟨_, rfl⟩
      have hx : x < m := by rw [ex]; exact red_lt _ _ hm0
      have hy : y < m := by rw [ey]; exact red_lt _ _ hm0
      have HPX := Lib.hid fun (W : World) => by
        have h := pick_any o.i m W wi hm0 (by omega)
        rw [← ex] at h
        exact h
      have HPY := Lib.hid fun (W : World) => by
        have h := pick_any o.j m W wj hm0 (by omega)
        rw [← ey] at h
        exact h
      obtain ⟨px, hpx⟩ : ∃ p, ps[x]? = some p := ⟨ps[x]'(by omega), List.getElem?_eq_getElem _⟩
      obtain ⟨py, hpy⟩ : ∃ p, ps[y]? = some p := ⟨ps[y]'(by omega), List.getElem?_eq_getElem _⟩
      have hlm : ls.length = m := by rw [em]; exact hs.len.symm
      obtain ⟨lx, hlx⟩ : ∃ l, ls[x]? = some l := ⟨ls[x]'(by omega), List.getElem?_eq_getElem _⟩
      obtain ⟨ly, hly⟩ : ∃ l, ls[y]? = some l := ⟨ls[y]'(by omega), List.getElem?_eq_getElem _⟩
      obtain ⟨A5, c5, e5, hA5⟩ := hs.ropes.form
      obtain ⟨A6, c6, e6, hA6⟩ := hs.texts.form
      obtain ⟨g5, e5a, cx5⟩ := hA5 x px hpx
      obtain ⟨g5', e5b, cy5⟩ := hA5 y py hpy
      rw [e5a] at e5b
      cases e5b
      obtain ⟨g6, e6a, cx6⟩ := hA6 x lx hlx
      obtain ⟨g6', e6b, cy6⟩ := hA6 y ly hly
      rw [e6a] at e6b
      cases e6b
      rw [e5a, ← em] at e5
      rw [e6a, hlm] at e6
      subst e5
      subst e6
      obtain ⟨sx, esx⟩ : ∃ s, s = txt lx := ⟨_, rfl⟩
      obtain ⟨sy, esy⟩ : ∃ s, s = txt ly := ⟨_, rfl⟩
      rw [← esx] at cx6
      rw [← esy] at cy6
      have hrows : ∀ W, Below WB.heap.size WB W → (W.cell? ⟨g5, x, none⟩ = some (.pointer px) ∧ W.cell? ⟨g5, y, none⟩ = some (.pointer py)) ∧ (W.cell? ⟨g6, x, none⟩ = some (.string sx) ∧ W.cell? ⟨g6, y, none⟩ = some (.string sy)) := fun W hB => by
        have h := hbB.trans (hB.mono hbB.size)
        exact ⟨⟨(h.cell (p := ⟨g5, x, none⟩) (World.block_lt_of_cell? _ _ cx5)).trans cx5, (h.cell (p := ⟨g5, y, none⟩) (World.block_lt_of_cell? _ _ cy5)).trans cy5⟩, (h.cell (p := ⟨g6, x, none⟩) (World.block_lt_of_cell? _ _ cx6)).trans cx6, (h.cell (p := ⟨g6, y, none⟩) (World.block_lt_of_cell? _ _ cy6)).trans cy6⟩
      have hxI : (x : Int) < (m : Int) := by omega
      have hyI : (y : Int) < (m : Int) := by omega
      have hx0 : (0 : Int) ≤ (x : Int) := by omega
      have hy0 : (0 : Int) ≤ (y : Int) := by omega
      have HX := Lib.hid fun (W : World) (hB : Below WB.heap.size WB W) => K.below (K.below (hs.all x px lx hpx hlx) hbB) hB
      have HY := Lib.hid fun (W : World) (hB : Below WB.heap.size WB W) => K.below (K.below (hs.all y py ly hpy hly) hbB) hB
      have HSB := Lib.hid (hs.later K hbB)
      have HBOX := Lib.hid hbox
      have HROWS := Lib.hid hrows
      have HEWB := Lib.hid eWB
      have HPL := Lib.hid (And.intro hpl hi2)
      have HLX := Lib.hid (And.intro (K.len (hs.all x px lx hpx hlx)) (K.len (hs.all y py ly hpy hly)))
      have ESX := Lib.hid esx
      have ESY := Lib.hid esy
      have HGOOD := Lib.hid (And.intro wf wt)
      have HWS : Hid (o.s.size ≤ 9223372036854775807) := Lib.hid (by unfold maxLen at hsm; exact hsm)
      have HLN : Hid (ps.length ≤ 1099511627776 ∧ ls.length ≤ 1099511627776) := Lib.hid (by omega)
      clear hs ho wk wi wj wf wt hsm hrange lsg kc eWB hbB hWBs hBox hbox em hm0 ex ey hx hy hpx hpy hlm hlx hly hA5 hA6 e5a e6a esx esy hrows hpl hi1 hi2 cx5 cy5 cx6 cy6
      go_wp2_with fail
      rw [← HEWB.out]
      clear k0 k1 k2 k3 k4 k5
      go_at_call 8
      (with_reducible refine (HPX.out _).mono ?_)
      rintro e wz ⟨rfl, rfl⟩
      go_wp2_with fail
      go_at_call 8
      (with_reducible refine (HPY.out _).mono ?_)
      rintro e wz ⟨rfl, rfl⟩
      by_cases hk1 : o.kind = 1
      · have e1 : (o.kind == 1) = true := by simp [hk1]
        have e2 : (o.kind == 2) = false := by simp [hk1]
        have e3 : (o.kind == 3) = false := by simp [hk1]
        clear hk1 b1 b2 b3 b4
        obtain ⟨S, eS⟩ : ∃ S, S = o.s := ⟨_, rfl⟩
        rw [← eS] at b5
        obtain ⟨l, el⟩ : ∃ l, S = txt l := ⟨S.data.toList, (txt_of S).symm⟩
        have EL := Lib.hid el
        have ES := Lib.hid eS
        by_cases hbig : S.size ≤ 300
        · have hll : l.length ≤ 300 := by rw [el, size_txt] at hbig; exact hbig
          have g1 : decide ((S.size : Int) ≤ 300) = true := by simp; omega
          have g1n : decide (S.size ≤ 300) = true := by simp; omega
          have HOK := Lib.hid (K.of_ok l S WB el (by omega))
          have HRO := Lib.hid fun (W : World) => ref_of_ok l S el W (by omega)
          clear hll hbig el eS
          go_wp2_with fail
          go_at_call 9
          (with_reducible refine HOK.out.mono ?_)
          rintro e w4 ⟨p4, rfl, hr4, hb4⟩
          obtain ⟨_, _, _, b5'⟩ := HBOX.out w4 hb4
          rw [← ES.out] at b5'
          have HB4 := Lib.hid hb4
          have HR4 := Lib.hid hr4
          clear hb4 hr4 b0 b5
          go_wp2_with fail
          go_at_call 10
          (with_reducible refine (HRO.out _).mono ?_)
          rintro e wz ⟨rfl, rfl⟩
          clear b5'
          have HS4 := Lib.hid (HSB.out.later K HB4.out)
          go_wp2_with ((refine wpList_append_ptr 145 p4 HS4.out.ropes rfl rfl HLN.out.1 HS4.out.below.size ?_))
          intro v5 w5 ho5 ht5
          have HH := Lib.hid (HS4.out.half F HR4.out ho5 ht5)
          clear ho5 ht5
          go_wp2_with ((refine wpList_append_str 149 l HH.out.texts EL.out rfl rfl HLN.out.2 HH.out.below.size ?_))
          intro v6 w6 ho6 ht6 _
          have HS6 := Lib.hid (HH.out.whole F ho6 ht6)
          clear ho6 ht6
          have hr6 := HS6.out.all ps.length p4 l (by simp) (by rw [HSB.out.len]; simp)
          have HR6 := Lib.hid hr6
          clear hr6
          go_wp2_with fail
          go_at_call 14
          (with_reducible refine (HAK.out _ _ _ _ HR6.out EL.out).mono ?_)
          rintro e w7 ⟨rfl, hb7⟩
          have HS7 := Lib.hid (HS6.out.later K hb7)
          clear hb7
          go_wp2_with fail
          go_roundw
          case rel => exact ⟨i + 1, _, _, by go_num, by have := HPL.out.2; omega, by have := HPL.out.1; simp; omega, HS7.out⟩
          case measure => simp [intOf]; omega
        · have g1 : decide ((S.size : Int) ≤ 300) = false := by simp; omega
          have g1n : decide (S.size ≤ 300) = false := by simp; omega
          clear hbig el eS
          go_wp2_with fail
          go_quiet (fail)
          have hbq := below_drewn WB nq
          generalize WB.drewN nq = w4 at hbq ⊢
          have HB4 := Lib.hid hbq
          clear b0 b5
          obtain ⟨b0, _, _, _⟩ := HBOX.out w4 hbq
          clear hbq
          go_wp2_with fail
          go_roundw
          case rel => exact ⟨i + 1, _, _, by go_num, by have := HPL.out.2; omega, by have := HPL.out.1; omega, HSB.out.later K HB4.out⟩
          case measure => simp [intOf]; omega
      · have e1 : (o.kind == 1) = false := by simp [hk1]
        by_cases hk2 : o.kind = 2
        · have e2 : (o.kind == 2) = true := by simp [hk2]
          have e3 : (o.kind == 3) = false := by simp [hk2]
          have hszx : lx.length = sx.size := by rw [ESX.out, size_txt]
          have hszy : ly.length = sy.size := by rw [ESY.out, size_txt]
          have hlx := HLX.out
          obtain ⟨sm, esm⟩ : ∃ s, s = sx.size + sy.size := ⟨_, rfl⟩
          have q1 : IntKind.i64.wrap ((sx.size : Int) + (sy.size : Int)) = (sm : Int) := by rw [show (sx.size : Int) + (sy.size : Int) = (sm : Int) by omega]; exact IntWalk.i64_in _ (by omega)
          obtain ⟨⟨cx5, cy5⟩, cx6, cy6⟩ := HROWS.out WB (Below.refl _ _)
          clear hk1 hk2 b1 b2 b3 b4 b5
          by_cases hsum : sm ≤ 20000
          · have g1 : decide ((sm : Int) ≤ 20000) = true := by simp; omega
            have g1n : decide (sm ≤ 20000) = true := by simp; omega
            have HJ := Lib.hid fun (W : World) (hB : Below WB.heap.size WB W) => K.join_ok (HX.out W hB) (HY.out W hB) (by omega)
            have hst : sx ++ sy = txt (lx ++ ly) := by rw [ESX.out, ESY.out, txt_append]
            have HEL := Lib.hid hst
            have HRO := Lib.hid fun (W : World) => ref_of_ok (lx ++ ly) (sx ++ sy) hst W (by rw [List.length_append]; omega)
            have hfit : (9223372036854775807 < sx.size + sy.size) = False := eq_false (by omega)
            clear hszx hszy hlx esm hsum hst
            go_wp2_with fail
            go_quiet (fail)
            have hbq := below_drewn WB nq
            generalize WB.drewN nq = w3 at hbq ⊢
            have HB3 := Lib.hid hbq
            have HBD := Lib.hid hbq.drew
            clear b0 cx5 cy5 cx6 cy6
            obtain ⟨⟨cx5, cy5⟩, _⟩ := HROWS.out w3 hbq
            clear hbq
            go_wp2_with fail
            go_region_held3 (fun wx => wx.cell? ⟨g5, x, none⟩ = some (.pointer px) ∧ wx.cell? ⟨g5, y, none⟩ = some (.pointer py))
              ((first | assumption | exact ⟨cx5, cy5⟩ | exact (HROWS.out _ HB4.out).1))
              (first
                | (go_at_call 11; (with_reducible refine (HJ.out _ HBD.out).mono ?_); rintro e w4 ⟨p4, rfl, hr4, hb4⟩; have HB4 := Lib.hid (HBD.out.trans (hb4.mono HBD.out.size)); have HR4 := Lib.hid hr4; clear hr4 hb4))
            clear cx5 cy5
            obtain ⟨_, cx6, cy6⟩ := HROWS.out w4 HB4.out
            go_wp2_with fail
            go_region_held3 (fun wx => wx.cell? ⟨g6, x, none⟩ = some (.string sx) ∧ wx.cell? ⟨g6, y, none⟩ = some (.string sy))
              ((first | assumption | exact ⟨cx6, cy6⟩))
              (first
                | (go_at_call 10; (with_reducible refine (HRO.out _).mono ?_); rintro e wz ⟨rfl, rfl⟩))
            clear cx6 cy6
            have hb5 := HB4.out.trans (((Below.refl w4.heap.size w4).drew).mono HB4.out.size)
            have HB5 := Lib.hid hb5
            have HR5 := Lib.hid (K.below HR4.out ((Below.refl w4.heap.size w4).drew))
            clear hb5
            have HS4 := Lib.hid (HSB.out.later K HB5.out)
            go_wp2_with ((refine wpList_append_ptr 145 p4 HS4.out.ropes rfl rfl HLN.out.1 HS4.out.below.size ?_))
            intro v5 w5 ho5 ht5
            have HH := Lib.hid (HS4.out.half F HR5.out ho5 ht5)
            clear ho5 ht5
            go_wp2_with ((refine wpList_append_str 149 (lx ++ ly) HH.out.texts HEL.out rfl rfl HLN.out.2 HH.out.below.size ?_))
            intro v6 w6 ho6 ht6 _
            have HS6 := Lib.hid (HH.out.whole F ho6 ht6)
            clear ho6 ht6
            have hr6 := HS6.out.all ps.length p4 (lx ++ ly) (by simp) (by rw [HSB.out.len]; simp)
            have HR6 := Lib.hid hr6
            clear hr6
            go_wp2_with fail
            go_at_call 14
            (with_reducible refine (HAK.out _ _ _ _ HR6.out HEL.out).mono ?_)
            rintro e w7 ⟨rfl, hb7⟩
            have HS7 := Lib.hid (HS6.out.later K hb7)
            clear hb7
            go_wp2_with fail
            go_roundw
            case rel => exact ⟨i + 1, _, _, by go_num, by have := HPL.out.2; omega, by have := HPL.out.1; simp; omega, HS7.out⟩
            case measure => simp [intOf]; omega
          · have g1 : decide ((sm : Int) ≤ 20000) = false := by simp; omega
            have g1n : decide (sm ≤ 20000) = false := by simp; omega
            clear hszx hszy hlx esm hsum
            go_wp2_with fail
            go_quiet (fail)
            have hbq := below_drewn WB nq
            generalize WB.drewN nq = w4 at hbq ⊢
            have HB4 := Lib.hid hbq
            clear b0 cx5 cy5 cx6 cy6
            obtain ⟨b0, _, _, _⟩ := HBOX.out w4 hbq
            clear hbq
            go_wp2_with fail
            go_roundw
            case rel => exact ⟨i + 1, _, _, by go_num, by have := HPL.out.2; omega, by have := HPL.out.1; omega, HSB.out.later K HB4.out⟩
            case measure => simp [intOf]; omega
        · have e2 : (o.kind == 2) = false := by simp [hk2]
          by_cases hk3 : o.kind = 3
          · have e3 : (o.kind == 3) = true := by simp [hk3]
            clear hk1 hk2 hk3 b1 b2 b3 b4 b5
            obtain ⟨a, ea⟩ : ∃ a, a = o.from_ := ⟨_, rfl⟩
            obtain ⟨c, ec⟩ : ∃ c, c = o.to_ := ⟨_, rfl⟩
            rw [← ea, ← ec] at HBOX HGOOD
            by_cases hcut : CutOk lx a c
            · have hcut' := hcut
              obtain ⟨h1, h2, h3⟩ := hcut'
              obtain ⟨a, rfl⟩ := Int.eq_ofNat_of_zero_le h1
              obtain ⟨c, rfl⟩ := Int.eq_ofNat_of_zero_le (show 0 ≤ c by omega)
              have HCU := Lib.hid fun (W : World) (hB : Below WB.heap.size WB W) => K.cut_ok a c (HX.out W hB) (by omega) (by omega)
              obtain ⟨T, eT⟩ : ∃ T, T = txt ((lx.take c).drop a) := ⟨_, rfl⟩
              have HRC := Lib.hid fun (W : World) => by
                have h := ref_cut_ok lx sx ESX.out a c W (by omega) (by omega)
                rw [← eT] at h
                exact h
              have ET := Lib.hid eT
              clear h1 h2 h3 hcut eT ea ec
              go_wp2_with fail
              go_quiet (fail)
              have hbq := below_drewn WB nq
              generalize WB.drewN nq = w3 at hbq ⊢
              have HB3 := Lib.hid hbq
              have HBD := Lib.hid hbq.drew
              clear b0
              obtain ⟨b0, b3, b4, _⟩ := HBOX.out w3 hbq
              obtain ⟨⟨cx5, _⟩, _⟩ := HROWS.out w3 hbq
              clear hbq
              go_wp2_with fail
              go_region_held3 (fun wx => wx.cell? ⟨g5, x, none⟩ = some (.pointer px) ∧ wx.cell? ⟨wo.heap.size, 3, none⟩ = some (.int .i64 (a : Int)) ∧ wx.cell? ⟨wo.heap.size, 4, none⟩ = some (.int .i64 (c : Int)))
                ((first | assumption | exact ⟨cx5, b3, b4⟩ | exact ⟨(HROWS.out _ HB4.out).1.1, (HBOX.out _ HB4.out).2.1, (HBOX.out _ HB4.out).2.2.1⟩))
                (first
                  | (go_at_call 12; (with_reducible refine (HCU.out _ HBD.out).mono ?_); rintro e w4 ⟨p4, rfl, hr4, hb4⟩; have HB4 := Lib.hid (HBD.out.trans (hb4.mono HBD.out.size)); have HR4 := Lib.hid hr4; clear hr4 hb4))
              clear b0 cx5 b3 b4
              obtain ⟨_, b3, b4, _⟩ := HBOX.out w4 HB4.out
              obtain ⟨_, cx6, _⟩ := HROWS.out w4 HB4.out
              go_wp2_with fail
              go_region_held3 (fun wx => wx.cell? ⟨g6, x, none⟩ = some (.string sx) ∧ wx.cell? ⟨wo.heap.size, 3, none⟩ = some (.int .i64 (a : Int)) ∧ wx.cell? ⟨wo.heap.size, 4, none⟩ = some (.int .i64 (c : Int)))
                ((first | assumption | exact ⟨cx6, b3, b4⟩))
                (first
                  | (go_at_call 13; (with_reducible refine (HRC.out _).mono ?_); rintro e wz ⟨rfl, rfl⟩))
              clear cx6 b3 b4
              have hb5 := HB4.out.trans (((Below.refl w4.heap.size w4).drew).mono HB4.out.size)
              have HB5 := Lib.hid hb5
              have HR5 := Lib.hid (K.below HR4.out ((Below.refl w4.heap.size w4).drew))
              clear hb5
              have HS4 := Lib.hid (HSB.out.later K HB5.out)
              go_wp2_with ((refine wpList_append_ptr 145 p4 HS4.out.ropes rfl rfl HLN.out.1 HS4.out.below.size ?_))
              intro v5 w5 ho5 ht5
              have HH := Lib.hid (HS4.out.half F HR5.out ho5 ht5)
              clear ho5 ht5
              go_wp2_with ((refine wpList_append_str 149 ((lx.take c).drop a) HH.out.texts ET.out rfl rfl HLN.out.2 HH.out.below.size ?_))
              intro v6 w6 ho6 ht6 _
              have HS6 := Lib.hid (HH.out.whole F ho6 ht6)
              clear ho6 ht6
              have hr6 := HS6.out.all ps.length p4 ((lx.take c).drop a) (by simp) (by rw [HSB.out.len]; simp)
              have HR6 := Lib.hid hr6
              clear hr6
              go_wp2_with fail
              go_at_call 14
              (with_reducible refine (HAK.out _ _ _ _ HR6.out ET.out).mono ?_)
              rintro e w7 ⟨rfl, hb7⟩
              have HS7 := Lib.hid (HS6.out.later K hb7)
              clear hb7
              go_wp2_with fail
              go_roundw
              case rel => exact ⟨i + 1, _, _, by go_num, by have := HPL.out.2; omega, by have := HPL.out.1; simp; omega, HS7.out⟩
              case measure => simp [intOf]; omega
            · have HCU := Lib.hid fun (W : World) (hB : Below WB.heap.size WB W) => K.cut_no a c (HX.out W hB) HGOOD.out.1 HGOOD.out.2 hcut
              have HRC := Lib.hid fun (W : World) => ref_cut_no lx sx ESX.out a c W hcut
              clear hcut ea ec
              go_wp2_with fail
              go_quiet (fail)
              have hbq := below_drewn WB nq
              generalize WB.drewN nq = w3 at hbq ⊢
              have HB3 := Lib.hid hbq
              have HBD := Lib.hid hbq.drew
              clear b0
              obtain ⟨b0, b3, b4, _⟩ := HBOX.out w3 hbq
              obtain ⟨⟨cx5, _⟩, _⟩ := HROWS.out w3 hbq
              clear hbq
              go_wp2_with fail
              go_region_held3 (fun wx => wx.cell? ⟨g5, x, none⟩ = some (.pointer px) ∧ wx.cell? ⟨wo.heap.size, 3, none⟩ = some (.int .i64 a) ∧ wx.cell? ⟨wo.heap.size, 4, none⟩ = some (.int .i64 c))
                ((first | assumption | exact ⟨cx5, b3, b4⟩ | exact ⟨(HROWS.out _ HB4.out).1.1, (HBOX.out _ HB4.out).2.1, (HBOX.out _ HB4.out).2.2.1⟩))
                (first
                  | (go_at_call 12; (with_reducible refine (HCU.out _ HBD.out).mono ?_); rintro e w4 ⟨p4, rfl, hb4⟩; have HB4 := Lib.hid (HBD.out.trans (hb4.mono HBD.out.size)); clear hb4))
              clear b0 cx5 b3 b4
              obtain ⟨_, b3, b4, _⟩ := HBOX.out w4 HB4.out
              obtain ⟨_, cx6, _⟩ := HROWS.out w4 HB4.out
              go_wp2_with fail
              go_region_held3 (fun wx => wx.cell? ⟨g6, x, none⟩ = some (.string sx) ∧ wx.cell? ⟨wo.heap.size, 3, none⟩ = some (.int .i64 a) ∧ wx.cell? ⟨wo.heap.size, 4, none⟩ = some (.int .i64 c))
                ((first | assumption | exact ⟨cx6, b3, b4⟩))
                (first
                  | (go_at_call 13; (with_reducible refine (HRC.out _).mono ?_); rintro e wz ⟨rfl, rfl⟩))
              clear cx6 b3 b4
              go_wp2_with fail
              go_roundw
              case rel => exact ⟨i + 1, _, _, by go_num, by have := HPL.out.2; omega, by have := HPL.out.1; omega, HSB.out.later K (HB4.out.trans (((Below.refl w4.heap.size w4).drew).mono HB4.out.size))⟩
              case measure => simp [intOf]; omega
          · have e3 : (o.kind == 3) = false := by simp [hk3]
            clear hk1 hk2 hk3 b1 b2 b3 b4 b5
            go_wp2_with fail
            go_quiet (fail)
            have hbq := below_drewn WB nq
            generalize WB.drewN nq = w4 at hbq ⊢
            have HB4 := Lib.hid hbq
            clear b0
            obtain ⟨b0, _, _, _⟩ := HBOX.out w4 hbq
            clear hbq
            go_wp2_with fail
            go_roundw
            case rel => exact ⟨i + 1, _, _, by go_num, by have := HPL.out.2; omega, by have := HPL.out.1; omega, HSB.out.later K HB4.out⟩
            case measure => simp [intOf]; omega
    · clear hs
      go_upto_region 4 with fail
      go_cut [27] from 20 to 155 (fun t wx => t = .bool false ∧ wo = wx)
      case first =>
        by_cases hi3 : i < nl
        · have hi4 : decide ((i : Int) < 40) = false := by simp; omega
          have hi5 : (i : Int) < (nl : Int) := by omega
          go_wp2_with fail
          go_meet
          exact ⟨rfl, rfl⟩
        · have hi5 : (nl : Int) ≤ (i : Int) := by omega
          go_wp2_with fail
          go_meet
          exact ⟨rfl, rfl⟩
      case rest =>
        obtain ⟨rfl, rfl⟩ := hcut
        obtain ⟨A5, c5, e5, hA5⟩ := HS.out.ropes.form
        obtain ⟨A6, c6, e6, hA6⟩ := HS.out.texts.form
        obtain ⟨m, em⟩ : ∃ m, m = ps.length := ⟨_, rfl⟩
        have hm0 : 0 < m := by rw [em]; exact HS.out.pos
        have hlm : ls.length = m := by rw [em]; exact HS.out.len.symm
        obtain ⟨g5, e5a, dump5⟩ := hA5 0 (ps[0]'(by omega)) (List.getElem?_eq_getElem _)
        obtain ⟨g6, e6a, dump6⟩ := hA6 0 (ls[0]'(by omega)) (List.getElem?_eq_getElem _)
        rw [e5a, ← em] at e5
        rw [e6a, hlm] at e6
        have hm40 : m ≤ 41 := by omega
        have E5 := Lib.hid e5
        have E6 := Lib.hid e6
        have HF := Lib.hid fun (W : World) (h : PlSt R w (.slice (some ⟨g5, 0, none⟩) m c5) (.slice (some ⟨g6, 0, none⟩) m c6) ps ls W) (j : Nat) (hj : j < m) => show ∃ p l, W.cell? ⟨g5, j, none⟩ = some (.pointer p) ∧ W.cell? ⟨g6, j, none⟩ = some (.string (txt l)) ∧ R W p l from by
          obtain ⟨B5, d5, f5, hB5⟩ := h.ropes.form
          obtain ⟨B6, d6, f6, hB6⟩ := h.texts.form
          obtain ⟨k5, t5, q5⟩ := hB5 j (ps[j]'(by omega)) (List.getElem?_eq_getElem _)
          obtain ⟨k6, t6, q6⟩ := hB6 j (ls[j]'(by omega)) (List.getElem?_eq_getElem _)
          rw [t5] at f5
          rw [t6] at f6
          injection f5 with f5 _ _
          injection f5 with f5
          injection f5 with f5 _ _
          injection f6 with f6 _ _
          injection f6 with f6
          injection f6 with f6 _ _
          subst f5
          subst f6
          exact ⟨_, _, q5, q6, h.all j _ _ (List.getElem?_eq_getElem _) (List.getElem?_eq_getElem _)⟩
        have HS' := HS
        rw [e5, e6] at HS'
        subst e5
        subst e6
        clear dump5 dump6 hA5 hA6 e5a e6a hlm HS E5 E6 em
        go_wp2_with fail
        go_loopw [16] (fun jv wx => ∃ j : Nat, jv = .int .i64 (j : Int) ∧ j ≤ m ∧ PlSt R w (.slice (some ⟨g5, 0, none⟩) m c5) (.slice (some ⟨g6, 0, none⟩) m c6) ps ls wx) (fun jv _ => m - (intOf jv).toNat)
        case atStart => exact ⟨0, rfl, Nat.zero_le _, HS'.out⟩
        case round =>
          obtain ⟨j, rfl, hj, hs2⟩ := hrel
          have HS2 := Lib.hid hs2
          by_cases hjm : j < m
          · obtain ⟨p, l, cp, cl, hr⟩ := HF.out _ hs2 j hjm
            obtain ⟨S, eS⟩ : ∃ S, S = txt l := ⟨_, rfl⟩
            rw [← eS] at cl
            have HAKJ := Lib.hid (HAK.out _ p l S (K.below hr (Below.refl _ _).drew) eS)
            have hjI : (j : Int) < (m : Int) := by omega
            have hj0 : (0 : Int) ≤ (j : Int) := by omega
            have HJM := Lib.hid (And.intro hj hjm)
            clear hs2 hr eS hj hjm hm0
            go_wp2_with fail
            go_region_held3 (fun wx => wx.cell? ⟨g5, j, none⟩ = some (.pointer p) ∧ wx.cell? ⟨g6, j, none⟩ = some (.string S))
              ((first | assumption | exact ⟨cp, cl⟩ | exact ⟨(hb7.cell (p := ⟨g5, j, none⟩) (World.block_lt_of_cell? _ _ cp)).trans cp, (hb7.cell (p := ⟨g6, j, none⟩) (World.block_lt_of_cell? _ _ cl)).trans cl⟩))
              (first
                | (go_at_call 14; (with_reducible refine HAKJ.out.mono ?_); rintro e w7 ⟨rfl, hb7⟩))
            have HS7 := Lib.hid (HS2.out.later K ((Below.refl _ _).drew.trans hb7))
            clear hb7 cp cl
            go_wp2_with fail
            go_roundw
            case rel => exact ⟨j + 1, by go_num, by have := HJM.out.2; omega, HS7.out⟩
            case measure => have := HJM.out.2; simp [intOf]; omega
          · have hjI : (m : Int) ≤ (j : Int) := by omega
            have hjn : ¬ (j : Int) < (m : Int) := by omega
            clear hs2 hj hjm hm0
            go_wp2_with fail
            go_at_call 15
            (with_reducible refine (HAL.out _).mono ?_)
            rintro e w8 ⟨rfl, hb8⟩
            have HB8 := Lib.hid (HS2.out.below.trans (hb8.mono HS2.out.below.size))
            clear hb8
            go_wp2_with fail
            go_ret
            exact ⟨rfl, HB8.out⟩
end
end Go.Proofs.Ytfibclaojdoonaa

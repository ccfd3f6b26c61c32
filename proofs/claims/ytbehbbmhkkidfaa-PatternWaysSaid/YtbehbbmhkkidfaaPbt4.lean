/-
  The law's built: a walk. Condition: shapes as a machine holds them.
-/
import Derived.Test.YtbehbbmhkkidfaaPbt3
namespace Go.Proofs.Ytbehbbmhkkidfaa
open Go.RowKit Go.Deep Go.Sort

set_option maxRecDepth 100000 in
set_option maxHeartbeats 4000000 in
theorem built_of {A : Option Addr} {ls : List SM} {cp : Nat} (hok : ∀ s ∈ ls, s.ok) (d : Nat) (hrec : ∀ d', d = d' + 1 → BuiltOk A ls cp d') (hd : d ≤ 3) : BuiltOk A ls cp d := by
  intro w g0 at0 hat ha hg
  have HAT := Lib.hid hat
  have HOK := Lib.hid hok
  have HREC := Lib.hid hrec
  have HST := Lib.hid (BR.start w ha hg)
  obtain ⟨n, hn⟩ : ∃ n, n = ls.length := ⟨_, rfl⟩
  have HN := Lib.hid hn
  have HD := Lib.hid hd
  rw [← hn]
  obtain ⟨gv0, hgv0⟩ : ∃ v : Value, v = .int .i64 ((g0 + 1 : Nat) : Int) := ⟨_, rfl⟩
  have HG0 := Lib.hid hgv0
  rw [← hgv0]
  clear hat hok hrec ha hg hn hd hgv0
  go_enter Try.func10, Try.ntmps10
  go_wp2_with fail
  go_loopw [1, 2, 11, 12, 13, 14, 15, 16, 17, 18, 19, 20, 21] (fun av gv kv _ _ _ _ _ _ _ _ _ _ wr => ∃ (L : List Sh) (xs : List NV) (a g : Nat), av = .int .i64 (a : Int) ∧ gv = .int .i64 ((g + 1 : Nat) : Int) ∧ BR w wr L xs g0 at0 a g kv) (fun av _ _ _ _ _ _ _ _ _ _ _ _ _ => 20 - (intOf av).toNat)
  case atStart => exact ⟨[], [], at0, g0, rfl, HG0.out, HST.out⟩
  case round =>
    obtain ⟨L, xs, a, g, rfl, rfl, hbr⟩ := hrel
    obtain ⟨Ak, ck, rfl, hck, hAk, _⟩ := own_off (S := (· < w.heap.size)) hbr.r (fun k h => h)
    have HBR := Lib.hid hbr
    have HCK := Lib.hid (And.intro hck hAk)
    have ha20 := hbr.n.2.1
    have hL5 := hbr.ok.2.2
    have hsz := hbr.b.size
    clear hck hAk hbr
    obtain ⟨m, hm⟩ : ∃ m, m = L.length := ⟨_, rfl⟩
    have HM := Lib.hid hm
    have hm5 : m ≤ 5 := by omega
    rw [← hm]
    clear hm hL5
    have hx := True.intro
    by_cases h1 : a < n
    · by_cases h2 : a < 20
      · by_cases h3 : m < 5
        · have i1 : ((a : Int)) < ((n : Int)) := by omega
          have d1 : decide (((a : Int)) < ((n : Int))) = true := decide_eq_true (by omega)
          have i2 : ((a : Int)) < (20) := by omega
          have d2 : decide (((a : Int)) < (20)) = true := decide_eq_true (by omega)
          have i3 : ((m : Int)) < (5) := by omega
          have d3 : decide (((m : Int)) < (5)) = true := decide_eq_true (by omega)
          have hi0 : (0 : Int) ≤ (a : Int) := by omega
          have hwr : wrap64 ((a : Int) + 1) = (a : Int) + 1 := IntWalk.wrap64_in _ (by omega)
          obtain ⟨X, hX⟩ : ∃ X, ls[a]? = some X := ⟨ls[a]'(by rw [← HN.out]; exact h1), List.getElem?_eq_getElem _⟩
          obtain ⟨b1, o1, he1, hbl1, m0, m1, m2, m3, m4⟩ := sm_at HAT.out hX
          have hXok := HOK.out X (List.mem_of_getElem? hX)
          have HX := Lib.hid hXok
          cases he1
          have p0 := (HBR.out.b.cell hbl1).trans m0
          have p1 := (HBR.out.b.cell hbl1).trans m1
          have p2 := (HBR.out.b.cell hbl1).trans m2
          have p3 := (HBR.out.b.cell hbl1).trans m3
          have p4 := (HBR.out.b.cell hbl1).trans m4
          obtain ⟨r, hr⟩ : ∃ r, r = X.c % 26 := ⟨_, rfl⟩
          have hr26 : r < 26 := by omega
          have hc1 : ((X.c : Int)).tmod 26 = (r : Int) := by rw [hr]; rfl
          have hc2 : IntKind.u8.wrap (r : Int) = (r : Int) := IntWalk.u8_in _ (by omega)
          have hc3 : IntKind.u8.wrap (97 + (r : Int)) = 97 + (r : Int) := IntWalk.u8_in _ (by omega)
          obtain ⟨T, hT⟩ : ∃ T, T = withS noS (97 + r) (97 + r) := ⟨_, rfl⟩
          have HWT := Lib.hid fun (W : World) => (show ((97 + r : Nat) : Int) = 97 + (r : Int) from by omega) ▸ with_same hT (by omega) W
          have HT := Lib.hid hT
          have HR26 := Lib.hid hr26
          have H3 := Lib.hid (And.intro h1 (And.intro h2 h3))
          clear m0 m1 m2 m3 m4 hX hbl1 h1 h2 h3 hT hr hr26 hx hXok
          go_upto_region 2 with fail
          go_cut [34] from 22 to 118 (fun t wx => t = .bool true ∧ wx = wr)
          case first =>
            go_wp2_with fail
            go_meet
            case rel => exact ⟨rfl, rfl⟩
          obtain ⟨rfl, hwx⟩ := hcut
          subst wc
          go_wp2_with fail
          go_at_call 9
          refine (HWT.out _).mono ?_
          rintro e w2 ⟨rfl, hw2⟩
          have HMID := Lib.hid (mid_start (X := X) (w1 := wr) hw2 HT.out)
          clear hw2
          go_upto_region 7 with fail
          obtain ⟨W, hW⟩ : ∃ W, W = w2.alloc (.cells #[.int .i64 1, .int .u64 (T 0), .int .u64 (T 1), .int .u64 (T 2), .int .u64 (T 3), .int .i64 0, .int .i64 0, .int .i64 0, .slice none 0 0] 30) := ⟨_, rfl⟩
          obtain ⟨b14, hb14⟩ : ∃ b, b = w2.heap.size := ⟨_, rfl⟩
          rw [← hW, ← hb14] at HMID
          rw [← hW, ← hb14]
          clear hW hb14 p0 p1 p2 p3 p4 hwr hc1 hc2 hc3 i1 d1 i2 d2 i3 d3
          obtain ⟨k0, k2, k3, k4⟩ := HMID.out.shape
          have lx : wr.heap.size < W.heap.size := Nat.lt_trans HMID.out.l HMID.out.o.lt
          obtain ⟨q, hq⟩ : ∃ q : Bool, q = (X.grp && decide (0 < d) && decide (g ≤ 8)) := ⟨_, rfl⟩
          go_cut [59] from 22 to 118 (fun t wx => t = .bool q ∧ wx = W)
          case first =>
            by_cases e1 : X.grp = true
            · rw [e1] at k0
              by_cases e2 : 0 < d
              · have j2 : decide ((d : Int) > 0) = true := decide_eq_true (by omega)
                have j2' : (d : Int) > 0 := by omega
                by_cases e3 : g ≤ 8
                · have j3 : decide (((g + 1 : Nat) : Int) ≤ 9) = true := decide_eq_true (by omega)
                  have j3' : (g : Int) + 1 ≤ 9 := by omega
                  have hqt : q = true := by rw [hq, e1, decide_eq_true e2, decide_eq_true e3]; rfl
                  subst hqt
                  clear hq e1 e2 e3
                  go_wp2_with fail
                  go_meet
                  case rel => exact ⟨rfl, rfl⟩
                · have j3 : decide (((g + 1 : Nat) : Int) ≤ 9) = false := decide_eq_false (by omega)
                  have j3' : ¬ (g : Int) + 1 ≤ 9 := by omega
                  have hqt : q = false := by rw [hq, e1, decide_eq_true e2, decide_eq_false e3]; rfl
                  subst hqt
                  clear hq e1 e2 e3
                  go_wp2_with fail
                  go_meet
                  case rel => exact ⟨rfl, rfl⟩
              · have j2 : decide ((d : Int) > 0) = false := decide_eq_false (by omega)
                have j2' : ¬ (d : Int) > 0 := by omega
                have hqt : q = false := by rw [hq, e1, decide_eq_false e2]; rfl
                subst hqt
                clear hq e1 e2
                go_wp2_with fail
                go_meet
                case rel => exact ⟨rfl, rfl⟩
            · have e1' : X.grp = false := Bool.eq_false_iff.2 e1
              rw [e1'] at k0
              have hqt : q = false := by rw [hq, e1']; rfl
              subst hqt
              clear hq e1 e1'
              go_wp2_with fail
              go_meet
              case rel => exact ⟨rfl, rfl⟩
          obtain ⟨rfl, hwx⟩ := hcut
          subst wc
          have HQ := Lib.hid hq
          clear hq k0 k2 k3 k4 lx
          go_upto_if 59 with fail
          have HA20 := Lib.hid (And.intro ha20 hm5)
          go_cut [1, 2, 15, 16, 17, 18, 19] from 22 to 118 (fun av gv _ _ _ _ _ wx => GrpMid wr X b14 r (a + 1) g av gv wx)
          case first =>
            cases q with
            | false =>
              go_wp2_with fail
              go_meet
              case rel => exact GrpMid.none HMID.out HR26.out H3.out.2.1 HBR.out.n.2.2.2
            | true =>
              have hdg : 0 < d ∧ g ≤ 8 := by
                have := HQ.out
                simp only [Bool.and_eq_true, decide_eq_true_eq, Bool.true_eq] at this
                exact ⟨this.1.2, this.2⟩
              obtain ⟨d', hd'⟩ : ∃ d', d = d' + 1 := ⟨d - 1, by omega⟩
              have hd3 := HD.out
              obtain ⟨G2, hG2⟩ : ∃ G2 : Int, G2 = ((g + 1 + 1 : Nat) : Int) := ⟨_, rfl⟩
              have hw1 : wrap64 ((g : Int) + 1 + 1) = G2 := by rw [hG2, IntWalk.wrap64_in _ (by omega)]; omega
              obtain ⟨D1, hD1⟩ : ∃ D1 : Int, D1 = (d' : Int) := ⟨_, rfl⟩
              have hw2 : wrap64 ((d : Int) - 1) = D1 := by rw [hD1, hd', IntWalk.wrap64_in _ (by omega)]; omega
              have HC := Lib.hid (show Calls Try.prog 10 #[.slice (some ⟨b1, o1, none⟩) n cp, .int .i64 ((a : Int) + 1), .int .i64 G2, .int .i64 D1] W (BAns W (g + 1) (a + 1)) from by
                have := HREC.out d' hd' W (g + 1) (a + 1) (HAT.out.below (HBR.out.b.trans (HMID.out.bw.mono HBR.out.b.size))) H3.out.2.1 (Nat.succ_le_succ hdg.2)
                rw [← HN.out] at this
                rw [hG2, hD1]
                exact this)
              have HDG := Lib.hid hdg
              clear hdg hd' hG2 hD1 HQ ha20 hm5 hsz hd3
              go_wp2_with fail
              go_at_call 10
              refine HC.out.mono ?_
              rintro e w5 ⟨L', xs', A', c', a', g', rfl, hk', hc', hA', hb', hok', hn'⟩
              obtain ⟨kl, hkl⟩ : ∃ k, k = L'.length := ⟨_, rfl⟩
              have HSZ' := Lib.hid hb'.size
              have HK' := Lib.hid (And.intro hk' (And.intro hc' (And.intro hA' (And.intro hok' hn'))))
              have HM' := Lib.hid (HMID.out.below hb')
              have HKL := Lib.hid hkl
              rw [← hkl]
              clear hk' hc' hA' hb' hok' hn' hkl hw1 hw2
              by_cases z0 : kl = 0
              · have zI : ¬ (kl : Int) > 0 := by omega
                have zd : decide ((kl : Int) > 0) = false := decide_eq_false zI
                clear z0
                go_wp2_with fail
                go_meet
                case rel => exact GrpMid.none HM'.out HR26.out H3.out.2.1 HBR.out.n.2.2.2
              · have zI : (kl : Int) > 0 := by omega
                have zd : decide ((kl : Int) > 0) = true := decide_eq_true zI
                have HZ0 := Lib.hid z0
                have HGE := Lib.hid (show g + 1 + cntL L' = g + cntS (.mk true (UInt8.ofNat (97 + r)) none L') by simp [cntS]; omega)
                by_cases z1 : kl = 1
                · have e1 : ((kl : Int) == 1) = true := by simp [z1]
                  have HZ1 := Lib.hid z1
                  have hxl := HK'.out.1.1
                  rw [shPL_len, ← HKL.out, z1] at hxl
                  obtain ⟨y1, hy1⟩ := List.length_eq_one_iff.1 hxl
                  subst hy1
                  obtain ⟨b2, o2, he2, hbl2, hcs2⟩ := off_at HK'.out.2.2.1 (by simp)
                  cases he2
                  obtain ⟨m0, m1, m2, m3, m4, m5, m6, m7, m8⟩ := hcs2 0 y1 rfl
                  rw [Nat.zero_mul, Nat.add_zero] at m0 m1 m2 m3 m4 m5 m6 m7 m8
                  obtain ⟨u, hu⟩ : ∃ u, shPL L' (g + 1) = [u] := List.length_eq_one_iff.1 (by rw [shPL_len, ← HKL.out]; exact z1)
                  have HZ := Lib.hid (show IsP (· < W.heap.size) w5 (joinK 2 (shPL L' (g + 1))) y1 by
                    have h0 := HK'.out.1.2 0
                    rw [hu] at h0 ⊢
                    exact h0 u y1 rfl rfl)
                  obtain ⟨lb, ⟨c0, c1, c2, c3, c4, c5, c6, c7, c8⟩, f0, f1, f2, f3, f4, f5, f6, f7, f8⟩ := HM'.out.o
                  clear z0 z1 hxl hcs2 hu
                  go_wp2_with fail
                  go_meet
                  case rel => exact grp_mid_some HM'.out HZ.out HMID.out.o.lt HMID.out.bw.size HSZ'.out _ rfl rfl (fun h => HZ0.out (by rw [HKL.out, h]; rfl)) HK'.out.2.2.2.1.1 HK'.out.2.2.2.1.2.1 HK'.out.2.2.2.1.2.2 HK'.out.2.2.2.2.1 HK'.out.2.2.2.2.2.1 (HK'.out.2.2.2.2.2.2.1.trans HGE.out) HK'.out.2.2.2.2.2.2.2 rfl
                · have e1 : ((kl : Int) == 1) = false := by rw [beq_eq_false_iff_ne]; omega
                  have HZ1 := Lib.hid z1
                  have e1n : ¬ (kl : Int) = 1 := by omega
                  have HZ := Lib.hid (show IsP (· < W.heap.size) w5 (joinK 2 (shPL L' (g + 1))) ⟨2, noS, 0, 0, 0, A', kl, c'⟩ by
                    rw [join_two' (by rw [shPL_len, ← HKL.out]; exact z1), HKL.out, ← shPL_len L' (g + 1)]
                    exact HK'.out.1.node (by rw [shPL_len]; exact HK'.out.2.1) HK'.out.2.2.1 2 noS 0 0 0)
                  obtain ⟨lb, ⟨c0, c1, c2, c3, c4, c5, c6, c7, c8⟩, f0, f1, f2, f3, f4, f5, f6, f7, f8⟩ := HM'.out.o
                  clear z0 z1
                  go_wp2_with fail
                  go_meet
                  case rel => exact grp_mid_some HM'.out HZ.out HMID.out.o.lt HMID.out.bw.size HSZ'.out _ rfl rfl (fun h => HZ0.out (by rw [HKL.out, h]; rfl)) HK'.out.2.2.2.1.1 HK'.out.2.2.2.1.2.1 HK'.out.2.2.2.1.2.2 HK'.out.2.2.2.2.1 HK'.out.2.2.2.2.2.1 (HK'.out.2.2.2.2.2.2.1.trans HGE.out) HK'.out.2.2.2.2.2.2.2 rfl
          obtain ⟨q2, ks, y2, a', g', rfl, rfl, hmid, hne, hokl, hth, hl5, ha', ha20', hg', hg9⟩ := hcut
          obtain ⟨k0, k2, k3, k4⟩ := hmid.shape
          have lx : wr.heap.size < wc.heap.size := Nat.lt_trans hmid.l hmid.o.lt
          have HM2 := Lib.hid hmid
          have HKS := Lib.hid (And.intro hne (And.intro hokl (And.intro hth (And.intro hl5 (And.intro ha' (And.intro ha20' (And.intro hg' hg9)))))))
          obtain ⟨tm, htm⟩ : ∃ b, b = X.times := ⟨_, rfl⟩
          rw [← htm] at k2
          clear hmid hne hokl hth hl5 ha' ha20' hg' hg9 htm k0
          go_upto_if 90 with fail
          go_cut [20, 21] from 91 to 114 (fun _ _ wx => RepMid wr X b14 (atomP q2 (UInt8.ofNat (97 + r)) g (shPL ks (g + 1))) wx)
          case first =>
            cases tm with
            | false =>
              go_wp2_with fail
              go_meet
              case rel => exact rep_mid_none HM2.out
            | true =>
              obtain ⟨lb, ⟨c0, c1, c2, c3, c4, c5, c6, c7, c8⟩, f0, f1, f2, f3, f4, f5, f6, f7, f8⟩ := HM2.out.o
              obtain ⟨_, hx1, hx2, hx3⟩ := HX.out
              obtain ⟨lo, hlo⟩ : ∃ x, x = X.lo := ⟨_, rfl⟩
              obtain ⟨hi, hhi⟩ : ∃ x, x = X.hi := ⟨_, rfl⟩
              rw [← hlo] at k3 hx1 hx2
              rw [← hhi] at k4 hx3
              clear hlo hhi k2
              by_cases h0 : lo < 0
              · obtain ⟨l1, hl1⟩ : ∃ x, x = lo + 1 := ⟨_, rfl⟩
                obtain ⟨l2, hl2⟩ : ∃ x, x = -l1 := ⟨_, rfl⟩
                have t1 : IntKind.i64.wrap (lo + 1) = l1 := by rw [hl1]; exact IntWalk.i64_in _ (by omega)
                have t2 : IntKind.i64.wrap (-l1) = l2 := by rw [hl2]; exact IntWalk.i64_in _ (by omega)
                have d0 : decide (lo < 0) = true := decide_eq_true h0
                obtain ⟨l, hl, hl20⟩ := rep_low (x := l2) (by omega)
                have hrl : IntKind.i64.wrap (l : Int) = (l : Int) := IntWalk.i64_in _ (by omega)
                by_cases hh : 0 ≤ hi
                · obtain ⟨d21, hd21⟩ : ∃ d : Int, d = 21 - (l : Int) := ⟨_, rfl⟩
                  obtain ⟨k, hk, hlk⟩ := rep_high (x := hi) hh hl20
                  rw [← hd21] at hk
                  have s1 : IntKind.i64.wrap (21 - (l : Int)) = d21 := by rw [hd21]; exact IntWalk.i64_in _ (by omega)
                  have s2 : IntKind.i64.wrap (k : Int) = (k : Int) := IntWalk.i64_in _ (by omega)
                  obtain ⟨hz, hhz⟩ : ∃ z : Int, z = (l : Int) + (k : Int) := ⟨_, rfl⟩
                  have s3 : IntKind.i64.wrap ((l : Int) + (k : Int)) = hz := by rw [hhz]; exact IntWalk.i64_in _ (by omega)
                  have hdn : (d21 == 0) = false := by rw [beq_eq_false_iff_ne]; omega
                  have hdn2 : ¬ d21 = 0 := by omega
                  have dh : decide (0 ≤ hi) = true := decide_eq_true hh
                  have HLK := Lib.hid (And.intro hl20 (And.intro (show hz ≤ 20 by omega) (show hz = -1 ∨ (l : Int) ≤ hz by omega)))
                  clear hl1 hl2 h0 hd21 hhz hlk hl20 hx1 hx2 hx3
                  go_wp2_with fail
                  go_meet
                  case rel => exact rep_mid_some HM2.out l hz HLK.out.1 HLK.out.2.1 HLK.out.2.2 rfl
                · have dh : decide (0 ≤ hi) = false := decide_eq_false hh
                  have HLK := Lib.hid hl20
                  clear hl1 hl2 h0 hl20 hx1 hx2 hx3
                  go_wp2_with fail
                  go_meet
                  case rel => exact rep_mid_some HM2.out l (-1) HLK.out (by omega) (.inl rfl) rfl
              · have d0 : decide (lo < 0) = false := decide_eq_false h0
                obtain ⟨l, hl, hl20⟩ := rep_low (x := lo) (by omega)
                have hrl : IntKind.i64.wrap (l : Int) = (l : Int) := IntWalk.i64_in _ (by omega)
                by_cases hh : 0 ≤ hi
                · obtain ⟨d21, hd21⟩ : ∃ d : Int, d = 21 - (l : Int) := ⟨_, rfl⟩
                  obtain ⟨k, hk, hlk⟩ := rep_high (x := hi) hh hl20
                  rw [← hd21] at hk
                  have s1 : IntKind.i64.wrap (21 - (l : Int)) = d21 := by rw [hd21]; exact IntWalk.i64_in _ (by omega)
                  have s2 : IntKind.i64.wrap (k : Int) = (k : Int) := IntWalk.i64_in _ (by omega)
                  obtain ⟨hz, hhz⟩ : ∃ z : Int, z = (l : Int) + (k : Int) := ⟨_, rfl⟩
                  have s3 : IntKind.i64.wrap ((l : Int) + (k : Int)) = hz := by rw [hhz]; exact IntWalk.i64_in _ (by omega)
                  have hdn : (d21 == 0) = false := by rw [beq_eq_false_iff_ne]; omega
                  have hdn2 : ¬ d21 = 0 := by omega
                  have dh : decide (0 ≤ hi) = true := decide_eq_true hh
                  have HLK := Lib.hid (And.intro hl20 (And.intro (show hz ≤ 20 by omega) (show hz = -1 ∨ (l : Int) ≤ hz by omega)))
                  clear hd21 hhz hlk hl20 hx1 hx2 hx3
                  go_wp2_with fail
                  go_meet
                  case rel => exact rep_mid_some HM2.out l hz HLK.out.1 HLK.out.2.1 HLK.out.2.2 rfl
                · have dh : decide (0 ≤ hi) = false := decide_eq_false hh
                  have HLK := Lib.hid hl20
                  clear hl20 hx1 hx2 hx3
                  go_wp2_with fail
                  go_meet
                  case rel => exact rep_mid_some HM2.out l (-1) HLK.out (by omega) (.inl rfl) rfl
          obtain ⟨rep, y3, hm3, hrep⟩ := hcut
          obtain ⟨s, hs⟩ : ∃ s : Sh, s = .mk q2 (UInt8.ofNat (97 + r)) rep ks := ⟨_, rfl⟩
          have hpc : a + pcS s = a' := by rw [hs, HKS.out.2.2.2.2.1]; simp only [pcS]; omega
          have hct : g + cntS s = g' := by
            rw [hs, HKS.out.2.2.2.2.2.2.1]
            simp only [cntS]
          have hsh : shP s g = repO rep (atomP q2 (UInt8.ofNat (97 + r)) g (shPL ks (g + 1))) := by rw [hs]; simp only [shP]
          have hoks : okS s ∧ thinS s := by
            rw [hs, okS.eq_1, thinS.eq_1]
            exact ⟨⟨HKS.out.1, plain_of HR26.out, hrep, HKS.out.2.1⟩, HKS.out.2.2.2.1, HKS.out.2.2.1⟩
          have hpush := HBR.out.push (s := s) (y := y3) (by have := H3.out.2.2; have := HM.out; omega) hm3.bw (by rw [hsh]; exact hm3.p.weaken fun k hk => .inl hk) hoks (by rw [hpc]; exact HKS.out.2.2.2.2.2.1) (by rw [hct]; exact HKS.out.2.2.2.2.2.2.2)
          simp only [hpc, hct] at hpush
          rw [← HM.out] at hpush
          have HW := Lib.hid hpush
          have HLT := Lib.hid (show 20 - a' < 20 - a by have := HKS.out.2.2.2.2.1; have := HKS.out.2.2.2.2.2.1; omega)
          obtain ⟨lb, ⟨c0, c1, c2, c3, c4, c5, c6, c7, c8⟩, f0, f1, f2, f3, f4, f5, f6, f7, f8⟩ := hm3.o
          clear hm3 hrep hs hpc hct hsh hoks hpush k2 k3 k4 lx f0 f1 f2 f3 f4 f5 f6 f7 f8
          go_wp2_with (refine wpList_append_raw 118 (nsV [y3]) elem_node HW.out.1 HW.out.2.1 rfl oneCell_nsV rfl rfl HW.out.2.2.2.1 HW.out.2.2.1 ?_)
          intro v' w4 hr hA hk
          have HN4 := Lib.hid (HW.out.2.2.2.2 v' w4 hr hA hk)
          clear hr hA hk c0 c1 c2 c3 c4 c5 c6 c7 c8 lb
          go_wp2_with fail
          go_roundw
          case rel => exact ⟨L ++ [s], xs ++ [y3], a', g', rfl, rfl, HN4.out⟩
          case measure => simp only [intOf]; have := HLT.out; omega
        · have i1 : ((a : Int)) < ((n : Int)) := by omega
          have d1 : decide (((a : Int)) < ((n : Int))) = true := decide_eq_true (by omega)
          have i2 : ((a : Int)) < (20) := by omega
          have d2 : decide (((a : Int)) < (20)) = true := decide_eq_true (by omega)
          have i3 : ¬ ((m : Int)) < (5) := by omega
          have d3 : decide (((m : Int)) < (5)) = false := decide_eq_false (by omega)
          clear h1 h2 h3
          clear hx
          go_upto_region 2 with fail
          go_cut [34] from 22 to 118 (fun t wx => t = .bool false ∧ wx = wr)
          case first =>
            go_wp2_with fail
            go_meet
            case rel => exact ⟨rfl, rfl⟩
          obtain ⟨rfl, rfl⟩ := hcut
          go_wp2_with fail
          refine bodyPost_ret (v := .tuple #[.slice Ak m ck, .int .i64 (a : Int), .int .i64 ((g + 1 : Nat) : Int)]) (by simp [results, Try.results10, go_sem]) rfl ?_
          rw [HM.out]
          exact HBR.out.ans HCK.out.1 HCK.out.2
      · have i1 : ((a : Int)) < ((n : Int)) := by omega
        have d1 : decide (((a : Int)) < ((n : Int))) = true := decide_eq_true (by omega)
        have i2 : ¬ ((a : Int)) < (20) := by omega
        have d2 : decide (((a : Int)) < (20)) = false := decide_eq_false (by omega)
        clear h1 h2
        clear hx
        go_upto_region 2 with fail
        go_cut [34] from 22 to 118 (fun t wx => t = .bool false ∧ wx = wr)
        case first =>
          go_wp2_with fail
          go_meet
          case rel => exact ⟨rfl, rfl⟩
        obtain ⟨rfl, rfl⟩ := hcut
        go_wp2_with fail
        refine bodyPost_ret (v := .tuple #[.slice Ak m ck, .int .i64 (a : Int), .int .i64 ((g + 1 : Nat) : Int)]) (by simp [results, Try.results10, go_sem]) rfl ?_
        rw [HM.out]
        exact HBR.out.ans HCK.out.1 HCK.out.2
    · have i1 : ¬ ((a : Int)) < ((n : Int)) := by omega
      have d1 : decide (((a : Int)) < ((n : Int))) = false := decide_eq_false (by omega)
      clear h1
      clear hx
      go_upto_region 2 with fail
      go_cut [34] from 22 to 118 (fun t wx => t = .bool false ∧ wx = wr)
      case first =>
        go_wp2_with fail
        go_meet
        case rel => exact ⟨rfl, rfl⟩
      obtain ⟨rfl, rfl⟩ := hcut
      go_wp2_with fail
      refine bodyPost_ret (v := .tuple #[.slice Ak m ck, .int .i64 (a : Int), .int .i64 ((g + 1 : Nat) : Int)]) (by simp [results, Try.results10, go_sem]) rfl ?_
      rw [HM.out]
      exact HBR.out.ans HCK.out.1 HCK.out.2
end Go.Proofs.Ytbehbbmhkkidfaa

/-
  The law's within: each group lies within what encloses it. Conditions: each group's span is none, or lies within; at most 4096 kids each.
-/
import Derived.Test.YtcbgbicdfpkikaaGreatDoorMgrs
import Derived.Test.YtcbgbicdfpkikaaGreatDoorMst
import Derived.Test.YtcbgbicdfpkikaaGreatDoorMmeq
import Derived.BigGuard
namespace Go.Proofs.YtcbgbicdfpkikaaGreatDoor
open Go.RowKit Go.Deep

def InSp (sp : Sp) (k : Nat) (o1 o2 : Int) : Prop := sp k = (-1, -1) ∨ ∃ a c : Nat, sp k = ((a : Int), (c : Int)) ∧ o1 ≤ (a : Int) ∧ a ≤ c ∧ (c : Int) ≤ o2
def WalkI (t : PN) : Prop := ∀ (S : Nat → Prop) (w : World) (y : NV) (sp : Sp) (o1 o2 : Int), IsP S w t y → (∀ k, 1 ≤ k → k ≤ 9 → InSp sp k o1 o2) → Calls Tryz.prog 19 #[y.v, .agg (spC sp), .agg #[.int .i64 o1, .int .i64 o2]] w (TrueC w)
set_option maxRecDepth 100000 in
set_option maxHeartbeats 2000000 in
theorem within_one {k : Int} {T : Nat → Nat} {lo hi num : Int} {kids : List PN} (hn4 : kids.length ≤ 4096) (hw : ∀ t ∈ kids, WalkI t) {S : Nat → Prop} {w : World} {xs : List NV} {A : Option Addr} {c : Nat} (hl : xs.length = kids.length) (hr : RawOff S w A (nsV xs)) (hk : ∀ (i : Nat) (t : PN) (x : NV), kids[i]? = some t → xs[i]? = some x → IsP S w t x) (sp : Sp) (o1 o2 : Int) (hin : ∀ k, 1 ≤ k → k ≤ 9 → InSp sp k o1 o2) : Calls Tryz.prog 19 #[.agg #[.int .i64 k, .int .u64 (T 0), .int .u64 (T 1), .int .u64 (T 2), .int .u64 (T 3), .int .i64 lo, .int .i64 hi, .int .i64 num, .slice A kids.length c], .agg (spC sp), .agg #[.int .i64 o1, .int .i64 o2]] w (TrueC w) := by
  have HR := Lib.hid (And.intro hl (And.intro hr (And.intro hk (And.intro hw hin))))
  obtain ⟨N, hN⟩ : ∃ N, N = kids.length := ⟨_, rfl⟩
  have HN := Lib.hid hN
  have hN4 : N ≤ 4096 := by omega
  rw [← hN]
  clear hw hl hr hk hN hn4 hin
  by_cases hg : k = 5 ∧ 1 ≤ num ∧ num ≤ 9
  · obtain ⟨h5, hn1, hn9⟩ := hg
    subst h5
    obtain ⟨m, rfl⟩ : ∃ m : Nat, num = (m : Int) := ⟨num.toNat, by omega⟩
    have hm1 : 1 ≤ m := by omega
    have hm9 : m ≤ 9 := by omega
    have d1 : decide ((1 : Int) ≤ (m : Int)) = true := decide_eq_true (by omega)
    have d1n : decide (1 ≤ m) = true := decide_eq_true hm1
    have d2 : decide ((m : Int) ≤ (9 : Int)) = true := decide_eq_true (by omega)
    have d2n : decide (m ≤ 9) = true := decide_eq_true hm9
    have hmI : (m : Int) < 10 := by omega
    have hm0 : (0 : Int) ≤ (m : Int) := by omega
    have HMM := Lib.hid (HR.out.2.2.2.2 m hm1 hm9)
    clear hn1 hn9
    have h00 := (((St.start w).box #[.int .i64 5, .int .u64 (T 0), .int .u64 (T 1), .int .u64 (T 2), .int .u64 (T 3), .int .i64 lo, .int .i64 hi, .int .i64 (m : Int), .slice A N c] 28).box (spC sp) 34).box #[.int .i64 o1, .int .i64 o2] 32
    rw [World.size_alloc, World.size_alloc] at h00
    go_enter Tryz.func19, Tryz.ntmps19
    go_upto_region 1 with fail
    obtain ⟨b3, hb3⟩ : ∃ b, b = w.heap.size := ⟨_, rfl⟩
    obtain ⟨b4, hb4⟩ : ∃ b, b = b3 + 1 := ⟨_, rfl⟩
    obtain ⟨b5, hb5⟩ : ∃ b, b = b4 + 1 := ⟨_, rfl⟩
    obtain ⟨W0, hW0⟩ : ∃ W, W = ((w.alloc (.cells #[.int .i64 5, .int .u64 (T 0), .int .u64 (T 1), .int .u64 (T 2), .int .u64 (T 3), .int .i64 lo, .int .i64 hi, .int .i64 (m : Int), .slice A N c] 28)).alloc (.cells (spC sp) 34)).alloc (.cells #[.int .i64 o1, .int .i64 o2] 32) := ⟨_, rfl⟩
    rw [← hW0, ← hb3, ← hb4, ← hb5] at h00
    rw [← hW0, ← hb3, ← hb4, ← hb5]
    have H0 := Lib.hid h00
    clear hW0 hb3 hb4 hb5 h00
    have j0 : W0.cell? ⟨b3, 0, none⟩ = some (.int .i64 5) := by rw [obj_cell (H0.out.ob 2 rfl)]; rfl
    have j7 : W0.cell? ⟨b3, 7, none⟩ = some (.int .i64 (m : Int)) := by rw [obj_cell (H0.out.ob 2 rfl)]; rfl
    have jl := lt_of_some (H0.out.ob 2 rfl)
    obtain ⟨z1, z2, hz⟩ : ∃ a b, sp m = (a, b) := ⟨_, _, rfl⟩
    have p0 : W0.cell? ⟨b4, m * 2, none⟩ = some (.int .i64 z1) := by
      rw [obj_cell (H0.out.ob 1 rfl), (spC_cell sp m (by omega)).1, hz]
    have p1 : W0.cell? ⟨b4, m * 2 + 1, none⟩ = some (.int .i64 z2) := by
      rw [obj_cell (H0.out.ob 1 rfl), (spC_cell sp m (by omega)).2, hz]
    have pl := lt_of_some (H0.out.ob 1 rfl)
    have HZ := Lib.hid hz
    clear hm1 hm9 hz
    go_upto_region 3 with fail
    obtain ⟨b7, hb7⟩ : ∃ b, b = W0.heap.size := ⟨_, rfl⟩
    obtain ⟨W1, hW1⟩ : ∃ W, W = W0.alloc (.cells #[.int .i64 z1, .int .i64 z2] 32) := ⟨_, rfl⟩
    have h11 := H0.out.box #[.int .i64 z1, .int .i64 z2] 32
    rw [← hW1, ← hb7] at h11
    rw [← hW1, ← hb7]
    have H1 := Lib.hid h11
    have H2 := Lib.hid (show St w W1 [(b5, #[.int .i64 o1, .int .i64 o2], 32), (b4, spC sp, 34), (b3, #[.int .i64 5, .int .u64 (T 0), .int .u64 (T 1), .int .u64 (T 2), .int .u64 (T 3), .int .i64 lo, .int .i64 hi, .int .i64 (m : Int), .slice A N c], 28)] [] from ⟨h11.bel, fun n x hx => h11.obs (n + 1) x hx, h11.trs⟩)
    clear hW1 hb7 h11 p0 p1 pl j0 j7 jl d1 d1n d2 d2n hmI hm0
    obtain ⟨q0, q1, _, _, ql⟩ := box_all (H1.out.ob 0 rfl)
    obtain ⟨r0, r1, _, _, rl⟩ := box_all (H1.out.ob 1 rfl)
    have hmm := HMM.out
    rw [InSp, HZ.out] at hmm
    rcases hmm with e | ⟨a, z, e, ha, haz, hzz⟩
    · cases e
      have HBB := Lib.hid H1.out.bel
      go_wp2_with fail
      go_ret
      exact ⟨rfl, HBB.out⟩
    · cases e
      have f1 : decide ((a : Int) < 0) = false := decide_eq_false (by omega)
      have f2 : decide ((z : Int) < (a : Int)) = false := decide_eq_false (by omega)
      have f2n : decide (z < a) = false := decide_eq_false (by omega)
      have f3 : decide ((a : Int) < o1) = false := decide_eq_false (by omega)
      have f4 : decide (o2 < (z : Int)) = false := decide_eq_false (by omega)
      clear ha haz hzz
      go_upto_region 7 with fail
      clear f1 f2 f2n f3 f4 q0 q1 ql r0 r1 rl
      go_wp2_with fail
      go_loopw [8, 9] (fun iv _ wr => ∃ i : Nat, iv = .int .i64 (i : Int) ∧ i ≤ N ∧ Hid (St w wr [(b5, #[.int .i64 o1, .int .i64 o2], 32), (b4, spC sp, 34), (b3, #[.int .i64 5, .int .u64 (T 0), .int .u64 (T 1), .int .u64 (T 2), .int .u64 (T 3), .int .i64 lo, .int .i64 hi, .int .i64 (m : Int), .slice A N c], 28)] [])) (fun iv _ _ => N - (intOf iv).toNat)
      case atStart => exact ⟨0, rfl, Nat.zero_le _, H2⟩
      case round =>
        obtain ⟨i, rfl, hi', HS⟩ := hrel
        have kx : wr.cell? ⟨b3, 8, none⟩ = some (.slice A N c) := by
          rw [obj_cell (HS.out.ob 2 rfl)]
          rfl
        have kl : b3 < wr.heap.size := lt_of_some (HS.out.ob 2 rfl)
        by_cases hlt : i < N
        · obtain ⟨t, ht⟩ : ∃ t, kids[i]? = some t := ⟨kids[i]'(by rw [← HN.out]; exact hlt), List.getElem?_eq_getElem _⟩
          obtain ⟨x, hx⟩ : ∃ x, xs[i]? = some x := ⟨xs[i]'(by rw [HR.out.1, ← HN.out]; exact hlt), List.getElem?_eq_getElem _⟩
          obtain ⟨b, o, he, hbl, hcs⟩ := row_at HR.out.2.1 (by rintro rfl; simp at hx)
          cases he
          have hb' := HS.out.bel
          have hcc := hcs i x hx
          have hcall := (HR.out.2.2.2.1 t (List.mem_of_getElem? ht)) S wr.drew x sp o1 o2 (((HR.out.2.2.1 i t x ht hx).stays hb').stays (Below.refl _ wr).drew) HR.out.2.2.2.2
          rw [NV.v_eq] at hcall
          have HC := Lib.hid hcall
          have HLT := Lib.hid hlt
          have hiI : (i : Int) < (N : Int) := by omega
          have hi0 : (0 : Int) ≤ (i : Int) := by omega
          have hi4 : i < 4096 := by omega
          have HSS := Lib.hid (show (fun wx : World => wx.cell? ⟨b3, 8, none⟩ = some (.slice (some ⟨b, o, none⟩) N c) ∧ (wx.cell? ⟨b, o + i * 9, none⟩ = some (.int .i64 x.kind) ∧ wx.cell? ⟨b, o + i * 9 + 1, none⟩ = some (.int .u64 (x.set 0)) ∧ wx.cell? ⟨b, o + i * 9 + 2, none⟩ = some (.int .u64 (x.set 1)) ∧ wx.cell? ⟨b, o + i * 9 + 3, none⟩ = some (.int .u64 (x.set 2)) ∧ wx.cell? ⟨b, o + i * 9 + 4, none⟩ = some (.int .u64 (x.set 3)) ∧ wx.cell? ⟨b, o + i * 9 + 5, none⟩ = some (.int .i64 x.lo) ∧ wx.cell? ⟨b, o + i * 9 + 6, none⟩ = some (.int .i64 x.hi) ∧ wx.cell? ⟨b, o + i * 9 + 7, none⟩ = some (.int .i64 x.num) ∧ wx.cell? ⟨b, o + i * 9 + 8, none⟩ = some (.slice x.A x.n x.c)) ∧ wx.heap[b4]? = some (.cells (spC sp) 34 (0, 0)) ∧ wx.cell? ⟨b5, 0, none⟩ = some (.int .i64 o1) ∧ wx.cell? ⟨b5, 1, none⟩ = some (.int .i64 o2)) wr.drew from by
            obtain ⟨m0, m1, m2, m3, m4, m5, m6, m7, m8⟩ := hcc
            have hq := HS.out.next (Below.refl wr.heap.size wr).drew
            have hb2 := hb'.trans ((Below.refl wr.heap.size wr).drew.mono hb'.size)
            obtain ⟨q0, q1, _, _, _⟩ := box_all (hq.ob 0 rfl)
            exact ⟨kx, ⟨(hb2.cell hbl).trans m0, (hb2.cell hbl).trans m1, (hb2.cell hbl).trans m2, (hb2.cell hbl).trans m3, (hb2.cell hbl).trans m4, (hb2.cell hbl).trans m5, (hb2.cell hbl).trans m6, (hb2.cell hbl).trans m7, (hb2.cell hbl).trans m8⟩, hq.ob 1 rfl, q0, q1⟩)
          clear hcall hcs hcc ht hx hb' hlt
          go_upto_region 10 with fail
          clear kx kl
          refine wp_region_heads (fun wx => wx.cell? ⟨b3, 8, none⟩ = some (.slice (some ⟨b, o, none⟩) N c) ∧ (wx.cell? ⟨b, o + i * 9, none⟩ = some (.int .i64 x.kind) ∧ wx.cell? ⟨b, o + i * 9 + 1, none⟩ = some (.int .u64 (x.set 0)) ∧ wx.cell? ⟨b, o + i * 9 + 2, none⟩ = some (.int .u64 (x.set 1)) ∧ wx.cell? ⟨b, o + i * 9 + 3, none⟩ = some (.int .u64 (x.set 2)) ∧ wx.cell? ⟨b, o + i * 9 + 4, none⟩ = some (.int .u64 (x.set 3)) ∧ wx.cell? ⟨b, o + i * 9 + 5, none⟩ = some (.int .i64 x.lo) ∧ wx.cell? ⟨b, o + i * 9 + 6, none⟩ = some (.int .i64 x.hi) ∧ wx.cell? ⟨b, o + i * 9 + 7, none⟩ = some (.int .i64 x.num) ∧ wx.cell? ⟨b, o + i * 9 + 8, none⟩ = some (.slice x.A x.n x.c)) ∧ wx.heap[b4]? = some (.cells (spC sp) 34 (0, 0)) ∧ wx.cell? ⟨b5, 0, none⟩ = some (.int .i64 o1) ∧ wx.cell? ⟨b5, 1, none⟩ = some (.int .i64 o2)) [0, 1, 2, 3, 4, 5, 6] [7, 8] [7, 8] (by kernel_rfl) (by kernel_rfl) (by kernel_rfl) (fun c a d v w h => hq_body (P := Tryz.prog) (fn := Tryz.f19) c a d v w h) (by kernel_rfl) HSS.out ?_
          refine heads_step (v := ?_) rfl (by rfl) (fun wx hSw => ?_) ?_
          rotate_left
          · obtain ⟨u0, ⟨v0, v1, v2, v3, v4, v5, v6, v7, v8⟩, uM, u1, u2⟩ := hSw
            go_simp
            try with_reducible rfl
          simp only [Act.put, List.setIfInBounds_toArray]
          refine heads_step (v := ?_) rfl (by rfl) (fun wx hSw => ?_) ?_
          rotate_left
          · obtain ⟨u0, ⟨v0, v1, v2, v3, v4, v5, v6, v7, v8⟩, uM, u1, u2⟩ := hSw
            go_simp
            try with_reducible rfl
          simp only [Act.put]
          refine heads_step (v := ?_) rfl (by rfl) (fun wx hSw => ?_) ?_
          rotate_left
          · obtain ⟨u0, ⟨v0, v1, v2, v3, v4, v5, v6, v7, v8⟩, uM, u1, u2⟩ := hSw
            go_simp
            try with_reducible rfl
          simp only [Act.put]
          refine heads_step (v := ?_) rfl (by rfl) (fun wx hSw => ?_) ?_
          rotate_left
          · obtain ⟨u0, ⟨v0, v1, v2, v3, v4, v5, v6, v7, v8⟩, uM, u1, u2⟩ := hSw
            go_simp
            try with_reducible rfl
          simp only [Act.put]
          refine heads_step (v := ?_) rfl (by rfl) (fun wx hSw => ?_) ?_
          rotate_left
          · obtain ⟨u0, ⟨v0, v1, v2, v3, v4, v5, v6, v7, v8⟩, uM, u1, u2⟩ := hSw
            go_simp
            try with_reducible rfl
          simp only [Act.put]
          refine heads_step (v := .agg (spC sp)) rfl (by rfl) (fun wx hSw => ?_) ?_
          · obtain ⟨u0, _, uM, u1, u2⟩ := hSw
            exact run_load_row 34 (.tmp 4) rfl b4 rfl 34 (spC sp) (0, 0) _ uM Tryz.underlying34 rfl (by kernel_rfl)
          simp only [Act.put]
          refine heads_step (v := ?_) rfl (by rfl) (fun wx hSw => ?_) ?_
          rotate_left
          · obtain ⟨u0, ⟨v0, v1, v2, v3, v4, v5, v6, v7, v8⟩, uM, u1, u2⟩ := hSw
            go_simp
            try with_reducible rfl
          simp only [Act.put]
          refine heads_end ?_
          refine tail_step rfl (fun K hK => ?_)
          go_simp
          refine HC.out.mono ?_
          rintro e w1 ⟨rfl, hb1⟩
          have H1 := Lib.hid ((HS.out.next (Below.refl wr.heap.size wr).drew).next hb1)
          refine hK _ _ ⟨fun h => by simp at h, ?_⟩
          clear hb1 hK K
          try simp only [Act.put, List.setIfInBounds_toArray, List.set_cons_zero, List.set_cons_succ]
          refine tail_step rfl (fun K hK => ?_)
          go_simp
          refine hK _ _ ⟨fun h => by simp at h, ?_⟩
          clear hK K
          try simp only [Act.put, List.setIfInBounds_toArray, List.set_cons_zero, List.set_cons_succ]
          refine tail_end ?_
          go_wp2_with fail
          go_roundw
          case rel => exact ⟨i + 1, by go_num, HLT.out, H1⟩
          case measure => have := HLT.out; simp [intOf]; omega
        · have he : i = N := by omega
          subst he
          have hiI : ¬ (i : Int) < (i : Int) := by omega
          have HB := Lib.hid HS.out.bel
          clear hlt hi'
          go_wp2_with fail
          go_ret
          exact ⟨rfl, HB.out⟩
  · have HGG := Lib.hid hg
    clear hg
    have h00 := (((St.start w).box #[.int .i64 k, .int .u64 (T 0), .int .u64 (T 1), .int .u64 (T 2), .int .u64 (T 3), .int .i64 lo, .int .i64 hi, .int .i64 num, .slice A N c] 28).box (spC sp) 34).box #[.int .i64 o1, .int .i64 o2] 32
    rw [World.size_alloc, World.size_alloc] at h00
    go_enter Tryz.func19, Tryz.ntmps19
    go_upto_region 1 with fail
    obtain ⟨b3, hb3⟩ : ∃ b, b = w.heap.size := ⟨_, rfl⟩
    obtain ⟨b4, hb4⟩ : ∃ b, b = b3 + 1 := ⟨_, rfl⟩
    obtain ⟨b5, hb5⟩ : ∃ b, b = b4 + 1 := ⟨_, rfl⟩
    obtain ⟨W0, hW0⟩ : ∃ W, W = ((w.alloc (.cells #[.int .i64 k, .int .u64 (T 0), .int .u64 (T 1), .int .u64 (T 2), .int .u64 (T 3), .int .i64 lo, .int .i64 hi, .int .i64 num, .slice A N c] 28)).alloc (.cells (spC sp) 34)).alloc (.cells #[.int .i64 o1, .int .i64 o2] 32) := ⟨_, rfl⟩
    rw [← hW0, ← hb3, ← hb4, ← hb5] at h00
    rw [← hW0, ← hb3, ← hb4, ← hb5]
    have H0 := Lib.hid h00
    clear hW0 hb3 hb4 hb5 h00
    have j0 : W0.cell? ⟨b3, 0, none⟩ = some (.int .i64 k) := by rw [obj_cell (H0.out.ob 2 rfl)]; rfl
    have j7 : W0.cell? ⟨b3, 7, none⟩ = some (.int .i64 num) := by rw [obj_cell (H0.out.ob 2 rfl)]; rfl
    have jl := lt_of_some (H0.out.ob 2 rfl)
    go_cut [22] from 10 to 22 (fun t wx => t = .bool false ∧ wx = W0)
    case first =>
      by_cases h5 : k = 5
      · have g5 : (k == 5) = true := beq_iff_eq.2 h5
        by_cases hn1 : num < 1
        · have d1 : decide ((1 : Int) ≤ num) = false := decide_eq_false (by omega)
          clear h5 hn1
          go_wp2_with fail
          go_meet
          case rel => exact ⟨rfl, rfl⟩
        · have d1 : decide ((1 : Int) ≤ num) = true := decide_eq_true (by omega)
          have d2 : decide (num ≤ (9 : Int)) = false := decide_eq_false fun h => HGG.out ⟨h5, by omega, h⟩
          clear h5 hn1
          go_wp2_with fail
          go_meet
          case rel => exact ⟨rfl, rfl⟩
      · have g5 : (k == 5) = false := beq_eq_false_iff_ne.2 h5
        clear h5
        go_wp2_with fail
        go_meet
        case rel => exact ⟨rfl, rfl⟩
    obtain ⟨rfl, hwc⟩ := hcut
    have hwc2 := hwc.symm
    clear hwc
    subst hwc2
    clear j0 j7 jl
    go_wp2_with fail
    go_loopw [8, 9] (fun iv _ wr => ∃ i : Nat, iv = .int .i64 (i : Int) ∧ i ≤ N ∧ Hid (St w wr [(b5, #[.int .i64 o1, .int .i64 o2], 32), (b4, spC sp, 34), (b3, #[.int .i64 k, .int .u64 (T 0), .int .u64 (T 1), .int .u64 (T 2), .int .u64 (T 3), .int .i64 lo, .int .i64 hi, .int .i64 num, .slice A N c], 28)] [])) (fun iv _ _ => N - (intOf iv).toNat)
    case atStart => exact ⟨0, rfl, Nat.zero_le _, H0⟩
    case round =>
      obtain ⟨i, rfl, hi', HS⟩ := hrel
      have kx : wr.cell? ⟨b3, 8, none⟩ = some (.slice A N c) := by
        rw [obj_cell (HS.out.ob 2 rfl)]
        rfl
      have kl : b3 < wr.heap.size := lt_of_some (HS.out.ob 2 rfl)
      by_cases hlt : i < N
      · obtain ⟨t, ht⟩ : ∃ t, kids[i]? = some t := ⟨kids[i]'(by rw [← HN.out]; exact hlt), List.getElem?_eq_getElem _⟩
        obtain ⟨x, hx⟩ : ∃ x, xs[i]? = some x := ⟨xs[i]'(by rw [HR.out.1, ← HN.out]; exact hlt), List.getElem?_eq_getElem _⟩
        obtain ⟨b, o, he, hbl, hcs⟩ := row_at HR.out.2.1 (by rintro rfl; simp at hx)
        cases he
        have hb' := HS.out.bel
        have hcc := hcs i x hx
        have hcall := (HR.out.2.2.2.1 t (List.mem_of_getElem? ht)) S wr.drew x sp o1 o2 (((HR.out.2.2.1 i t x ht hx).stays hb').stays (Below.refl _ wr).drew) HR.out.2.2.2.2
        rw [NV.v_eq] at hcall
        have HC := Lib.hid hcall
        have HLT := Lib.hid hlt
        have hiI : (i : Int) < (N : Int) := by omega
        have hi0 : (0 : Int) ≤ (i : Int) := by omega
        have hi4 : i < 4096 := by omega
        have HSS := Lib.hid (show (fun wx : World => wx.cell? ⟨b3, 8, none⟩ = some (.slice (some ⟨b, o, none⟩) N c) ∧ (wx.cell? ⟨b, o + i * 9, none⟩ = some (.int .i64 x.kind) ∧ wx.cell? ⟨b, o + i * 9 + 1, none⟩ = some (.int .u64 (x.set 0)) ∧ wx.cell? ⟨b, o + i * 9 + 2, none⟩ = some (.int .u64 (x.set 1)) ∧ wx.cell? ⟨b, o + i * 9 + 3, none⟩ = some (.int .u64 (x.set 2)) ∧ wx.cell? ⟨b, o + i * 9 + 4, none⟩ = some (.int .u64 (x.set 3)) ∧ wx.cell? ⟨b, o + i * 9 + 5, none⟩ = some (.int .i64 x.lo) ∧ wx.cell? ⟨b, o + i * 9 + 6, none⟩ = some (.int .i64 x.hi) ∧ wx.cell? ⟨b, o + i * 9 + 7, none⟩ = some (.int .i64 x.num) ∧ wx.cell? ⟨b, o + i * 9 + 8, none⟩ = some (.slice x.A x.n x.c)) ∧ wx.heap[b4]? = some (.cells (spC sp) 34 (0, 0)) ∧ wx.cell? ⟨b5, 0, none⟩ = some (.int .i64 o1) ∧ wx.cell? ⟨b5, 1, none⟩ = some (.int .i64 o2)) wr.drew from by
          obtain ⟨m0, m1, m2, m3, m4, m5, m6, m7, m8⟩ := hcc
          have hq := HS.out.next (Below.refl wr.heap.size wr).drew
          have hb2 := hb'.trans ((Below.refl wr.heap.size wr).drew.mono hb'.size)
          obtain ⟨q0, q1, _, _, _⟩ := box_all (hq.ob 0 rfl)
          exact ⟨kx, ⟨(hb2.cell hbl).trans m0, (hb2.cell hbl).trans m1, (hb2.cell hbl).trans m2, (hb2.cell hbl).trans m3, (hb2.cell hbl).trans m4, (hb2.cell hbl).trans m5, (hb2.cell hbl).trans m6, (hb2.cell hbl).trans m7, (hb2.cell hbl).trans m8⟩, hq.ob 1 rfl, q0, q1⟩)
        clear hcall hcs hcc ht hx hb' hlt
        go_upto_region 10 with fail
        clear kx kl
        refine wp_region_heads (fun wx => wx.cell? ⟨b3, 8, none⟩ = some (.slice (some ⟨b, o, none⟩) N c) ∧ (wx.cell? ⟨b, o + i * 9, none⟩ = some (.int .i64 x.kind) ∧ wx.cell? ⟨b, o + i * 9 + 1, none⟩ = some (.int .u64 (x.set 0)) ∧ wx.cell? ⟨b, o + i * 9 + 2, none⟩ = some (.int .u64 (x.set 1)) ∧ wx.cell? ⟨b, o + i * 9 + 3, none⟩ = some (.int .u64 (x.set 2)) ∧ wx.cell? ⟨b, o + i * 9 + 4, none⟩ = some (.int .u64 (x.set 3)) ∧ wx.cell? ⟨b, o + i * 9 + 5, none⟩ = some (.int .i64 x.lo) ∧ wx.cell? ⟨b, o + i * 9 + 6, none⟩ = some (.int .i64 x.hi) ∧ wx.cell? ⟨b, o + i * 9 + 7, none⟩ = some (.int .i64 x.num) ∧ wx.cell? ⟨b, o + i * 9 + 8, none⟩ = some (.slice x.A x.n x.c)) ∧ wx.heap[b4]? = some (.cells (spC sp) 34 (0, 0)) ∧ wx.cell? ⟨b5, 0, none⟩ = some (.int .i64 o1) ∧ wx.cell? ⟨b5, 1, none⟩ = some (.int .i64 o2)) [0, 1, 2, 3, 4, 5, 6] [7, 8] [7, 8] (by kernel_rfl) (by kernel_rfl) (by kernel_rfl) (fun c a d v w h => hq_body (P := Tryz.prog) (fn := Tryz.f19) c a d v w h) (by kernel_rfl) HSS.out ?_
        refine heads_step (v := ?_) rfl (by rfl) (fun wx hSw => ?_) ?_
        rotate_left
        · obtain ⟨u0, ⟨v0, v1, v2, v3, v4, v5, v6, v7, v8⟩, uM, u1, u2⟩ := hSw
          go_simp
          try with_reducible rfl
        simp only [Act.put, List.setIfInBounds_toArray]
        refine heads_step (v := ?_) rfl (by rfl) (fun wx hSw => ?_) ?_
        rotate_left
        · obtain ⟨u0, ⟨v0, v1, v2, v3, v4, v5, v6, v7, v8⟩, uM, u1, u2⟩ := hSw
          go_simp
          try with_reducible rfl
        simp only [Act.put]
        refine heads_step (v := ?_) rfl (by rfl) (fun wx hSw => ?_) ?_
        rotate_left
        · obtain ⟨u0, ⟨v0, v1, v2, v3, v4, v5, v6, v7, v8⟩, uM, u1, u2⟩ := hSw
          go_simp
          try with_reducible rfl
        simp only [Act.put]
        refine heads_step (v := ?_) rfl (by rfl) (fun wx hSw => ?_) ?_
        rotate_left
        · obtain ⟨u0, ⟨v0, v1, v2, v3, v4, v5, v6, v7, v8⟩, uM, u1, u2⟩ := hSw
          go_simp
          try with_reducible rfl
        simp only [Act.put]
        refine heads_step (v := ?_) rfl (by rfl) (fun wx hSw => ?_) ?_
        rotate_left
        · obtain ⟨u0, ⟨v0, v1, v2, v3, v4, v5, v6, v7, v8⟩, uM, u1, u2⟩ := hSw
          go_simp
          try with_reducible rfl
        simp only [Act.put]
        refine heads_step (v := .agg (spC sp)) rfl (by rfl) (fun wx hSw => ?_) ?_
        · obtain ⟨u0, _, uM, u1, u2⟩ := hSw
          exact run_load_row 34 (.tmp 4) rfl b4 rfl 34 (spC sp) (0, 0) _ uM Tryz.underlying34 rfl (by kernel_rfl)
        simp only [Act.put]
        refine heads_step (v := ?_) rfl (by rfl) (fun wx hSw => ?_) ?_
        rotate_left
        · obtain ⟨u0, ⟨v0, v1, v2, v3, v4, v5, v6, v7, v8⟩, uM, u1, u2⟩ := hSw
          go_simp
          try with_reducible rfl
        simp only [Act.put]
        refine heads_end ?_
        refine tail_step rfl (fun K hK => ?_)
        go_simp
        refine HC.out.mono ?_
        rintro e w1 ⟨rfl, hb1⟩
        have H1 := Lib.hid ((HS.out.next (Below.refl wr.heap.size wr).drew).next hb1)
        refine hK _ _ ⟨fun h => by simp at h, ?_⟩
        clear hb1 hK K
        try simp only [Act.put, List.setIfInBounds_toArray, List.set_cons_zero, List.set_cons_succ]
        refine tail_step rfl (fun K hK => ?_)
        go_simp
        refine hK _ _ ⟨fun h => by simp at h, ?_⟩
        clear hK K
        try simp only [Act.put, List.setIfInBounds_toArray, List.set_cons_zero, List.set_cons_succ]
        refine tail_end ?_
        go_wp2_with fail
        go_roundw
        case rel => exact ⟨i + 1, by go_num, HLT.out, H1⟩
        case measure => have := HLT.out; simp [intOf]; omega
      · have he : i = N := by omega
        subst he
        have hiI : ¬ (i : Int) < (i : Int) := by omega
        have HB := Lib.hid HS.out.bel
        clear hlt hi'
        go_wp2_with fail
        go_ret
        exact ⟨rfl, HB.out⟩
theorem within_is : ∀ {t : PN} {n : Nat}, Grpd t n → WalkI t := by
  intro t n h
  refine Grpd.rec (motive_1 := fun t _ _ => WalkI t) (motive_2 := fun l _ _ => ∀ t ∈ l, WalkI t) ?_ ?_ ?_ h
  · intro k T lo hi num kids n h4 _ ih S w y sp o1 o2 hy hin
    cases hy with
    | mk xs hl hc hr hkk => exact within_one h4 ih hl hr hkk sp o1 o2 hin
  · intro t ht
    cases ht
  · intro t r a b _ _ h1 h2 u hu
    rcases List.mem_cons.1 hu with rfl | hu
    · exact h1
    · exact h2 u hu
end Go.Proofs.YtcbgbicdfpkikaaGreatDoor

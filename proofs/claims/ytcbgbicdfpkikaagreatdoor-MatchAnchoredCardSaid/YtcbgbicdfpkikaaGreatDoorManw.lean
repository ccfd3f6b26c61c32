/-
  MatchAnchored's walk. Conditions: the world holds what strings.Index asks, and the table of de Bruijn's numbers.
-/
import Derived.Test.YtcbgbicdfpkikaaGreatDoorManc
namespace Go.Proofs.YtcbgbicdfpkikaaGreatDoor
open Go.RowKit Go.Deep Go.Sort

set_option maxRecDepth 100000 in
set_option maxHeartbeats 2000000 in
theorem anchored_any (p s : ByteArray) (b : Bool) (w : World) (hM : MaxAt w) (hD : DebAt w) : Calls Tryz.prog 7 #[.string p, .string s, .bool b] w (TrueC w) := by
  have HA := Lib.hid fun (W : World) (hW : Below w.heap.size w W) => alive10_is W (hM.below hW) (hD.below hW)
  have HP := Lib.hid (parse_of p true w hM)
  have HD := Lib.hid hD
  clear hM hD
  go_enter Tryz.func7, Tryz.ntmps7
  go_wp2_with fail
  go_at_call 18
  cases hpp : parseP bkOf true p.data.toList with
  | none =>
    rw [hpp] at HP
    clear hpp
    refine HP.out.mono ?_
    rintro e w1 ⟨rfl, hb1⟩
    have hb2 := hb1.trans ((bW w1 (.cells #[.int .i64 0, .int .u64 0, .int .u64 0, .int .u64 0, .int .u64 0, .int .i64 0, .int .i64 0, .int .i64 0, .slice none 0 0] 28)).mono hb1.size)
    have HAA := Lib.hid (HA.out _ hb2)
    have HB := Lib.hid hb2
    clear hb1 hb2
    by_cases h1 : 18 < p.size
    · have h1b : decide ((18 : Int) < (p.size : Int)) = true := decide_eq_true (by omega)
      have h1n : decide (18 < p.size) = true := decide_eq_true h1
      clear h1
      go_wp2_with fail
      go_at_call 15
      with_reducible refine HAA.out.mono ?_
      rintro e w2 ⟨rfl, hb⟩
      have HBB := Lib.hid (HB.out.trans (hb.mono HB.out.size))
      clear hb
      go_wp2_with fail
      go_ret
      exact ⟨rfl, HBB.out⟩
    · have h1b : decide ((18 : Int) < (p.size : Int)) = false := decide_eq_false (by omega)
      have h1n : decide (18 < p.size) = false := decide_eq_false h1
      clear h1
      go_wp2_with fail
      go_at_call 15
      with_reducible refine HAA.out.mono ?_
      rintro e w2 ⟨rfl, hb⟩
      have HBB := Lib.hid (HB.out.trans (hb.mono HB.out.size))
      clear hb
      go_wp2_with fail
      go_ret
      exact ⟨rfl, HBB.out⟩
  | some t =>
    rw [hpp] at HP
    have hnod := parse_nods hpp
    clear hpp
    refine HP.out.mono ?_
    rintro e w1 ⟨y, rfl, hy, hb1⟩
    obtain ⟨W, hW⟩ : ∃ W, W = w1.alloc (.cells #[.int .i64 y.kind, .int .u64 (y.set 0), .int .u64 (y.set 1), .int .u64 (y.set 2), .int .u64 (y.set 3), .int .i64 y.lo, .int .i64 y.hi, .int .i64 y.num, .slice y.A y.n y.c] 28) := ⟨_, rfl⟩
    have hbW : Below w1.heap.size w1 W := by rw [hW]; exact bW w1 _
    have hob : W.heap[w1.heap.size]? = some (.cells #[.int .i64 y.kind, .int .u64 (y.set 0), .int .u64 (y.set 1), .int .u64 (y.set 2), .int .u64 (y.set 3), .int .i64 y.lo, .int .i64 y.hi, .int .i64 y.num, .slice y.A y.n y.c] 28 (0, 0)) := by rw [hW]; exact heap_alloc_new w1 _
    have hbw : Below w.heap.size w W := hb1.trans (hbW.mono hb1.size)
    have HY := Lib.hid (And.intro ((hy.stays hbW).weaken (T := fun _ => False) fun k h => h.elim) (And.intro hbw (And.intro hob hnod)))
    have HAA := Lib.hid (HA.out W hbw)
    rw [NV.v_eq]
    clear hy hb1 hbW hob hbw hnod
    by_cases h1 : 18 < p.size
    · have h1b : decide ((18 : Int) < (p.size : Int)) = true := decide_eq_true (by omega)
      have h1n : decide (18 < p.size) = true := decide_eq_true h1
      clear h1
      go_upto_region 3 with fail
      rw [← hW]
      clear hW
      go_wp2_with fail
      go_at_call 15
      with_reducible refine HAA.out.mono ?_
      rintro e w2 ⟨rfl, hb⟩
      have HBB := Lib.hid (HY.out.2.1.trans (hb.mono HY.out.2.1.size))
      clear hb
      go_wp2_with fail
      go_ret
      exact ⟨rfl, HBB.out⟩
    have h1b : decide ((18 : Int) < (p.size : Int)) = false := decide_eq_false (by omega)
    have h1n : decide (18 < p.size) = false := decide_eq_false h1
    by_cases h2 : 12 < s.size
    · have h2b : decide ((12 : Int) < (s.size : Int)) = true := decide_eq_true (by omega)
      have h2n : decide (12 < s.size) = true := decide_eq_true h2
      clear h1 h2
      go_upto_region 3 with fail
      rw [← hW]
      clear hW
      go_wp2_with fail
      go_at_call 15
      with_reducible refine HAA.out.mono ?_
      rintro e w2 ⟨rfl, hb⟩
      have HBB := Lib.hid (HY.out.2.1.trans (hb.mono HY.out.2.1.size))
      clear hb
      go_wp2_with fail
      go_ret
      exact ⟨rfl, HBB.out⟩
    have h2b : decide ((12 : Int) < (s.size : Int)) = false := decide_eq_false (by omega)
    have h2n : decide (12 < s.size) = false := decide_eq_false h2
    have HS := Lib.hid (show s.size ≤ 12 by omega)
    clear h1 h2 HAA
    go_upto_region 4 with fail
    rw [← hW]
    clear hW
    obtain ⟨b1, hb1'⟩ : ∃ b, b = w1.heap.size := ⟨_, rfl⟩
    rw [← hb1'] at HY ⊢
    have hl1 : b1 < W.heap.size := lt_of_some HY.out.2.2.1
    obtain ⟨e0, e1, e2, e3, e4, e5, e6, e7, e8⟩ : W.cell? ⟨b1, 0, none⟩ = some (.int .i64 y.kind) ∧ W.cell? ⟨b1, 1, none⟩ = some (.int .u64 (y.set 0)) ∧ W.cell? ⟨b1, 2, none⟩ = some (.int .u64 (y.set 1)) ∧ W.cell? ⟨b1, 3, none⟩ = some (.int .u64 (y.set 2)) ∧ W.cell? ⟨b1, 4, none⟩ = some (.int .u64 (y.set 3)) ∧ W.cell? ⟨b1, 5, none⟩ = some (.int .i64 y.lo) ∧ W.cell? ⟨b1, 6, none⟩ = some (.int .i64 y.hi) ∧ W.cell? ⟨b1, 7, none⟩ = some (.int .i64 y.num) ∧ W.cell? ⟨b1, 8, none⟩ = some (.slice y.A y.n y.c) := by
      refine ⟨?_, ?_, ?_, ?_, ?_, ?_, ?_, ?_, ?_⟩ <;> (rw [obj_cell HY.out.2.2.1]; rfl)
    clear hb1'
    go_upto_region 5 with fail
    obtain ⟨W5, hW5⟩ : ∃ W5, W5 = (W.alloc (.cells #[.int .i64 6, .int .u64 0, .int .u64 0, .int .u64 0, .int .u64 0, .int .i64 0, .int .i64 0, .int .i64 0, .slice none 0 0, .int .i64 y.kind, .int .u64 (y.set 0), .int .u64 (y.set 1), .int .u64 (y.set 2), .int .u64 (y.set 3), .int .i64 y.lo, .int .i64 y.hi, .int .i64 y.num, .slice y.A y.n y.c, .int .i64 7, .int .u64 0, .int .u64 0, .int .u64 0, .int .u64 0, .int .i64 0, .int .i64 0, .int .i64 0, .slice none 0 0] 28)).alloc (.cells #[.int .i64 2, .int .u64 0, .int .u64 0, .int .u64 0, .int .u64 0, .int .i64 0, .int .i64 0, .int .i64 0, .slice (some ⟨W.heap.size, 0, none⟩) 3 3] 28) := ⟨_, rfl⟩
    have hob := obj2 hW5
    obtain ⟨gk, hgk⟩ : ∃ g, g = W.heap.size := ⟨_, rfl⟩
    obtain ⟨b9, hb9⟩ : ∃ g, g = W.heap.size + 1 := ⟨_, rfl⟩
    have hok : W5.heap[gk]? = some (.cells #[.int .i64 6, .int .u64 0, .int .u64 0, .int .u64 0, .int .u64 0, .int .i64 0, .int .i64 0, .int .i64 0, .slice none 0 0, .int .i64 y.kind, .int .u64 (y.set 0), .int .u64 (y.set 1), .int .u64 (y.set 2), .int .u64 (y.set 3), .int .i64 y.lo, .int .i64 y.hi, .int .i64 y.num, .slice y.A y.n y.c, .int .i64 7, .int .u64 0, .int .u64 0, .int .u64 0, .int .u64 0, .int .i64 0, .int .i64 0, .int .i64 0, .slice none 0 0] 28 (0, 0)) := by rw [hW5, hgk]; exact old_obj' (heap_alloc_new W _) _
    have ho9 : W5.heap[b9]? = some (.cells #[.int .i64 2, .int .u64 0, .int .u64 0, .int .u64 0, .int .u64 0, .int .i64 0, .int .i64 0, .int .i64 0, .slice (some ⟨gk, 0, none⟩) 3 3] 28 (0, 0)) := by
      rw [hW5, hb9, hgk]
      have := heap_alloc_new (W.alloc (.cells #[.int .i64 6, .int .u64 0, .int .u64 0, .int .u64 0, .int .u64 0, .int .i64 0, .int .i64 0, .int .i64 0, .slice none 0 0, .int .i64 y.kind, .int .u64 (y.set 0), .int .u64 (y.set 1), .int .u64 (y.set 2), .int .u64 (y.set 3), .int .i64 y.lo, .int .i64 y.hi, .int .i64 y.num, .slice y.A y.n y.c, .int .i64 7, .int .u64 0, .int .u64 0, .int .u64 0, .int .u64 0, .int .i64 0, .int .i64 0, .int .i64 0, .slice none 0 0] 28)) (.cells #[.int .i64 2, .int .u64 0, .int .u64 0, .int .u64 0, .int .u64 0, .int .i64 0, .int .i64 0, .int .i64 0, .slice (some ⟨W.heap.size, 0, none⟩) 3 3] 28)
      rw [World.size_alloc] at this
      exact this
    rw [← hW5, ← hb9, ← hgk]
    have hbw5 : Below w.heap.size w W5 := HY.out.2.1.trans (hob.1.mono HY.out.2.1.size)
    have hia := anch_is (HY.out.1.stays hob.1) hok rfl
    have hfi := find_is (s := s) b 0 hia (HD.out.below hbw5) (anch_nods HY.out.2.2.2)
    have hfi2 : Calls Tryz.prog 16 #[.agg #[.int .i64 2, .int .u64 0, .int .u64 0, .int .u64 0, .int .u64 0, .int .i64 0, .int .i64 0, .int .i64 0, .slice (some ⟨gk, 0, none⟩) 3 3], .string s, .int .i64 0, .bool b] W5 (FindE s.data.toList b (anchT t) 0 W5) := hfi
    have HF := Lib.hid hfi2
    have HB5 := Lib.hid (And.intro hbw5 (And.intro hob.1 (bobj hob.1 HY.out.2.2.1 hl1)))
    have hl9 := lt_of_some ho9
    obtain ⟨i0, i1, i2, i3, i4, i5, i6, i7, i8⟩ : W5.cell? ⟨b9, 0, none⟩ = some (.int .i64 2) ∧ W5.cell? ⟨b9, 1, none⟩ = some (.int .u64 0) ∧ W5.cell? ⟨b9, 2, none⟩ = some (.int .u64 0) ∧ W5.cell? ⟨b9, 3, none⟩ = some (.int .u64 0) ∧ W5.cell? ⟨b9, 4, none⟩ = some (.int .u64 0) ∧ W5.cell? ⟨b9, 5, none⟩ = some (.int .i64 0) ∧ W5.cell? ⟨b9, 6, none⟩ = some (.int .i64 0) ∧ W5.cell? ⟨b9, 7, none⟩ = some (.int .i64 0) ∧ W5.cell? ⟨b9, 8, none⟩ = some (.slice (some ⟨gk, 0, none⟩) 3 3) := by
      refine ⟨?_, ?_, ?_, ?_, ?_, ?_, ?_, ?_, ?_⟩ <;> (rw [obj_cell ho9]; rfl)
    clear hW5 hob hgk hb9 hok ho9 hbw5 hia hfi hfi2 hl1 e0 e1 e2 e3 e4 e5 e6 e7 e8
    go_wp2_with fail
    go_at_call 16
    with_reducible refine HF.out.mono ?_
    rintro e w6 ⟨sp, ok, rfl, hfr, hb6⟩
    have hT : s.data.toList.length ≤ 1024 := by show s.size ≤ 1024; have := HS.out; omega
    obtain ⟨hok, hsp⟩ := anch_find hT hfr
    have HQ := Lib.hid (And.intro hok (And.intro hsp hb6))
    clear hfr hb6 hT hok hsp i0 i1 i2 i3 i4 i5 i6 i7 i8 hl9
    rename_i hK
    refine hK _ _ ?_
    clear hK
    iterate 4
      refine wpList_plain rfl (fun K2 hK2 => ?_)
      go_simp
      refine hK2 _ _ ?_
      clear hK2 K2
      try simp only [Act.put, List.setIfInBounds_toArray, List.set_cons_zero, List.set_cons_succ]
    refine wpList_mat_store rfl (.tmp 10) (.tmp 41) rfl sp rfl rfl ?_
    obtain ⟨W7, hW7⟩ : ∃ W7, W7 = w6.alloc (.cells (spC sp) 34) := ⟨_, rfl⟩
    obtain ⟨b10, hb10⟩ : ∃ b10, b10 = w6.heap.size := ⟨_, rfl⟩
    have ho10 : W7.heap[b10]? = some (.cells (spC sp) 34 (0, 0)) := by rw [hW7, hb10]; exact heap_alloc_new w6 _
    have hbel7 : Below W5.heap.size W5 W7 := by
      rw [hW7]
      exact HQ.out.2.2.trans ((bW w6 _).mono HQ.out.2.2.size)
    have hob7 := bobj hbel7 HB5.out.2.2 (lt_of_some HB5.out.2.2)
    have hl1 : b1 < W7.heap.size := lt_of_some hob7
    obtain ⟨e0, e1, e2, e3, e4, e5, e6, e7, e8⟩ : W7.cell? ⟨b1, 0, none⟩ = some (.int .i64 y.kind) ∧ W7.cell? ⟨b1, 1, none⟩ = some (.int .u64 (y.set 0)) ∧ W7.cell? ⟨b1, 2, none⟩ = some (.int .u64 (y.set 1)) ∧ W7.cell? ⟨b1, 3, none⟩ = some (.int .u64 (y.set 2)) ∧ W7.cell? ⟨b1, 4, none⟩ = some (.int .u64 (y.set 3)) ∧ W7.cell? ⟨b1, 5, none⟩ = some (.int .i64 y.lo) ∧ W7.cell? ⟨b1, 6, none⟩ = some (.int .i64 y.hi) ∧ W7.cell? ⟨b1, 7, none⟩ = some (.int .i64 y.num) ∧ W7.cell? ⟨b1, 8, none⟩ = some (.slice y.A y.n y.c) := by
      refine ⟨?_, ?_, ?_, ?_, ?_, ?_, ?_, ?_, ?_⟩ <;> (rw [obj_cell hob7]; rfl)
    have hbw7 : Below w.heap.size w W7 := HB5.out.1.trans (hbel7.mono HB5.out.1.size)
    have his := is_is (s := s) b 0 (s.size : Int) ((HY.out.1.stays HB5.out.2.1).stays hbel7) (HD.out.below hbw7) (by have := HS.out; omega) (by have := HY.out.2.2.2; omega)
    rw [NV.v_eq] at his
    have HI := Lib.hid his
    have H7 := Lib.hid (And.intro hbw7 ho10)
    rw [← hW7, ← hb10]
    clear hW7 hb10 ho10 hbel7 hob7 hbw7 his
    go_wp2_with fail
    go_at_call 17
    with_reducible refine HI.out.mono ?_
    rintro e w8 ⟨rfl, hb8⟩
    clear e0 e1 e2 e3 e4 e5 e6 e7 e8 hl1
    have hisb : isB s.data.toList b t 0 (s.size : Int) = semT s.data.toList b t 0 s.data.toList.length := by
      unfold isB
      rw [decide_eq_true (by omega : (0 : Int) ≤ 0), decide_eq_true (by omega : (0 : Int) ≤ (s.size : Int)), decide_eq_true (show (s.size : Int) ≤ (s.data.toList.length : Int) from Int.le_refl _)]
      rfl
    rw [hisb]
    obtain ⟨wh, hwh⟩ : ∃ wh, wh = semT s.data.toList b t 0 s.data.toList.length := ⟨_, rfl⟩
    rw [← hwh]
    have hok := HQ.out.1
    rw [← hwh] at hok
    subst hok
    have ho8 := bobj hb8 H7.out.2 (lt_of_some H7.out.2)
    have hbw8 : Below w.heap.size w w8 := H7.out.1.trans (hb8.mono H7.out.1.size)
    have HAA := Lib.hid (HA.out w8 hbw8)
    have H8 := Lib.hid (And.intro hbw8 ho8)
    clear hb8 hisb hwh ho8 hbw8
    cases wh
    · cases b
      · go_wp2_with fail
        go_at_call 15
        with_reducible refine HAA.out.mono ?_
        rintro e w9 ⟨rfl, hb⟩
        have HBB := Lib.hid (H8.out.1.trans (hb.mono H8.out.1.size))
        clear hb
        go_wp2_with fail
        go_ret
        exact ⟨rfl, HBB.out⟩
      · go_wp2_with fail
        go_at_call 15
        with_reducible refine HAA.out.mono ?_
        rintro e w9 ⟨rfl, hb⟩
        have HBB := Lib.hid (H8.out.1.trans (hb.mono H8.out.1.size))
        clear hb
        go_wp2_with fail
        go_ret
        exact ⟨rfl, HBB.out⟩
    · cases b
      · go_wp2_with fail
        go_at_call 15
        with_reducible refine HAA.out.mono ?_
        rintro e w9 ⟨rfl, hb⟩
        have HBB := Lib.hid (H8.out.1.trans (hb.mono H8.out.1.size))
        clear hb
        go_wp2_with fail
        go_ret
        exact ⟨rfl, HBB.out⟩
      · have hsp := HQ.out.2.1 rfl
        have HSP := Lib.hid hsp
        clear hsp
        go_wp2_with fail
        go_at_call 15
        with_reducible refine HAA.out.mono ?_
        rintro e w9 ⟨rfl, hb⟩
        have ho9 := bobj hb H8.out.2 (lt_of_some H8.out.2)
        have k0 : w9.cell? ⟨b10, 0, none⟩ = some (.int .i64 0) := by
          rw [obj_cell ho9, show (0 : Int) = (sp 0).1 from by rw [HSP.out]]; rfl
        have k1 : w9.cell? ⟨b10, 1, none⟩ = some (.int .i64 (s.size : Int)) := by
          rw [obj_cell ho9, show (s.size : Int) = (sp 0).2 from by rw [HSP.out]; rfl]; rfl
        have hl9 := lt_of_some ho9
        have HBB := Lib.hid (H8.out.1.trans (hb.mono H8.out.1.size))
        clear hb ho9
        go_wp2_with fail
        go_ret
        exact ⟨rfl, HBB.out⟩
end Go.Proofs.YtcbgbicdfpkikaaGreatDoor

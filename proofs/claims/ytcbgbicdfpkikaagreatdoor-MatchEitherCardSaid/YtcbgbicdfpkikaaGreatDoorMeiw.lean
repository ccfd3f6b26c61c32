/-
  MatchEither's walk. Conditions: the world holds what strings.Index asks, and the table of de Bruijn's numbers.
-/
import Derived.Test.YtcbgbicdfpkikaaGreatDoorMst
import Derived.Test.YtcbgbicdfpkikaaGreatDoorMei
import Derived.Deep.Cut
import Derived.Deep.CutRange
import Derived.BigGuard
namespace Go.Proofs.YtcbgbicdfpkikaaGreatDoor
open Go.RowKit Go.Deep Go.Sort

theorem FindR.ll0 {T : List UInt8} {b : Bool} {t : PN} {ok : Bool} {sp : Sp} (h : FindR T b t 0 ok sp) (hT : T.length ≤ 1024) : LLR T.length 0 (semT T b t) ok sp := FindR.ll (fr := 0) h (Nat.zero_le _) hT
set_option maxRecDepth 100000 in
set_option maxHeartbeats 8000000 in
theorem either_any (p0 p1 s : ByteArray) (w : World) (hM : MaxAt w) (hD : DebAt w) : Calls Tryz.prog 8 #[.agg #[.string p0, .string p1], .string s] w (TrueC w) := by
  have HA := Lib.hid fun (W : World) (hW : Below w.heap.size w W) => alive10_is W (hM.below hW) (hD.below hW)
  have HP := Lib.hid fun (s : ByteArray) (W : World) (hW : Below w.heap.size w W) => parse_v s true W (hM.below hW)
  have HD := Lib.hid hD
  obtain ⟨W0, hW0⟩ : ∃ W0, W0 = w.alloc (.cells #[.string p0, .string p1] 48) := ⟨_, rfl⟩
  obtain ⟨b2, hb2⟩ : ∃ b, b = w.heap.size := ⟨_, rfl⟩
  have H0 := Lib.hid (show St w W0 [(b2, #[.string p0, .string p1], 48)] [] from by rw [hW0, hb2]; exact (St.start w).box _ _)
  obtain ⟨k0, k1, _, _, kl⟩ := box_all (H0.out.ob 0 rfl)
  have HP0 := Lib.hid (HP.out p0 W0 H0.out.bel)
  clear hM hD
  go_enter Tryz.func8, Tryz.ntmps8
  go_upto_region 1 with fail
  rw [← hW0, ← hb2]
  clear hW0 hb2
  go_wp2_with fail
  go_at_call 18
  with_reducible refine HP0.out.mono ?_
  rintro e w1 ⟨y, c0, rfl, hb1, hy, hz⟩
  obtain ⟨W1, hW1⟩ : ∃ W1, W1 = w1.alloc (.cells #[.int .i64 y.kind, .int .u64 (y.set 0), .int .u64 (y.set 1), .int .u64 (y.set 2), .int .u64 (y.set 3), .int .i64 y.lo, .int .i64 y.hi, .int .i64 y.num, .slice y.A y.n y.c] 28) := ⟨_, rfl⟩
  obtain ⟨b5, hb5⟩ : ∃ b, b = w1.heap.size := ⟨_, rfl⟩
  have H1 := Lib.hid (show St w W1 [(b5, #[.int .i64 y.kind, .int .u64 (y.set 0), .int .u64 (y.set 1), .int .u64 (y.set 2), .int .u64 (y.set 3), .int .i64 y.lo, .int .i64 y.hi, .int .i64 y.num, .slice y.A y.n y.c], 28), (b2, #[.string p0, .string p1], 48)] [] from by rw [hW1, hb5]; exact (H0.out.next hb1).box _ _)
  have HY := Lib.hid (And.intro (fun t ht => (⟨(hy t ht).1, (hy t ht).2.stays (by rw [hW1]; exact bW w1 _)⟩ : _ ∧ IsP (fun _ => False) W1 t y)) hz)
  have HP1 := Lib.hid (HP.out p1 W1 H1.out.bel)
  rw [NV.v_eq]
  clear hy hz hb1 k0 k1 kl
  go_upto_region 2 with fail
  rw [← hW1, ← hb5]
  clear hW1 hb5
  obtain ⟨k0, k1, _, _, kl⟩ := box_all (H1.out.ob 1 rfl)
  go_wp2_with fail
  go_at_call 18
  with_reducible refine HP1.out.mono ?_
  rintro e w2 ⟨z, c1, rfl, hb1, hy, hz⟩
  have HB12 := Lib.hid (hb1.trans ((bW w2 (.cells #[.int .i64 z.kind, .int .u64 (z.set 0), .int .u64 (z.set 1), .int .u64 (z.set 2), .int .u64 (z.set 3), .int .i64 z.lo, .int .i64 z.hi, .int .i64 z.num, .slice z.A z.n z.c] 28)).mono hb1.size))
  obtain ⟨W2, hW2⟩ : ∃ W2, W2 = w2.alloc (.cells #[.int .i64 z.kind, .int .u64 (z.set 0), .int .u64 (z.set 1), .int .u64 (z.set 2), .int .u64 (z.set 3), .int .i64 z.lo, .int .i64 z.hi, .int .i64 z.num, .slice z.A z.n z.c] 28) := ⟨_, rfl⟩
  obtain ⟨b7, hb7⟩ : ∃ b, b = w2.heap.size := ⟨_, rfl⟩
  have H2 := Lib.hid (show St w W2 [(b7, #[.int .i64 z.kind, .int .u64 (z.set 0), .int .u64 (z.set 1), .int .u64 (z.set 2), .int .u64 (z.set 3), .int .i64 z.lo, .int .i64 z.hi, .int .i64 z.num, .slice z.A z.n z.c], 28), (b5, #[.int .i64 y.kind, .int .u64 (y.set 0), .int .u64 (y.set 1), .int .u64 (y.set 2), .int .u64 (y.set 3), .int .i64 y.lo, .int .i64 y.hi, .int .i64 y.num, .slice y.A y.n y.c], 28), (b2, #[.string p0, .string p1], 48)] [] from by rw [hW2, hb7]; exact (H1.out.next hb1).box _ _)
  have HZ := Lib.hid (And.intro (fun t ht => (⟨(hy t ht).1, (hy t ht).2.stays (by rw [hW2]; exact bW w2 _)⟩ : _ ∧ IsP (fun _ => False) W2 t z)) hz)
  have HB2 := Lib.hid (show Below W1.heap.size W1 W2 from by rw [hW2]; exact HB12.out)
  rw [NV.v_eq]
  clear hy hz hb1 k0 k1 kl
  go_upto_region 3 with fail
  rw [← hW2, ← hb7]
  clear hW2 hb7
  obtain ⟨k0, k1, _, _, kl⟩ := box_all (H2.out.ob 2 rfl)
  by_cases h1 : 20 < p0.size
  · have h1b : decide ((20 : Int) < (p0.size : Int)) = true := decide_eq_true (by omega)
    have h1n : decide (20 < p0.size) = true := decide_eq_true h1
    clear h1
    go_wp2_with fail
    go_at_call 15
    with_reducible refine (HA.out _ H2.out.bel).mono ?_
    rintro e wz ⟨rfl, hb⟩
    have HBB := Lib.hid (H2.out.bel.trans (hb.mono H2.out.bel.size))
    clear hb
    go_wp2_with fail
    go_ret
    exact ⟨rfl, HBB.out⟩
  have h1b : decide ((20 : Int) < (p0.size : Int)) = false := decide_eq_false (by omega)
  have h1n : decide (20 < p0.size) = false := decide_eq_false h1
  clear h1
  by_cases h1 : 20 < p1.size
  · have h2b : decide ((20 : Int) < (p1.size : Int)) = true := decide_eq_true (by omega)
    have h2n : decide (20 < p1.size) = true := decide_eq_true h1
    clear h1
    go_wp2_with fail
    go_at_call 15
    with_reducible refine (HA.out _ H2.out.bel).mono ?_
    rintro e wz ⟨rfl, hb⟩
    have HBB := Lib.hid (H2.out.bel.trans (hb.mono H2.out.bel.size))
    clear hb
    go_wp2_with fail
    go_ret
    exact ⟨rfl, HBB.out⟩
  have h2b : decide ((20 : Int) < (p1.size : Int)) = false := decide_eq_false (by omega)
  have h2n : decide (20 < p1.size) = false := decide_eq_false h1
  clear h1
  cases hR : parseP bkOf true p0.data.toList with
  | none =>
    have hc := HY.out.2 hR
    subst hc
    clear hR
    go_wp2_with fail
    go_at_call 15
    with_reducible refine (HA.out _ H2.out.bel).mono ?_
    rintro e wz ⟨rfl, hb⟩
    have HBB := Lib.hid (H2.out.bel.trans (hb.mono H2.out.bel.size))
    clear hb
    go_wp2_with fail
    go_ret
    exact ⟨rfl, HBB.out⟩
  | some t0 =>
  have hc := (HY.out.1 t0 hR).1
  subst hc
  have HN0 := Lib.hid (parse_nods hR)
  have HT0 := Lib.hid (HY.out.1 t0 hR).2
  clear hR
  cases hR : parseP bkOf true p1.data.toList with
  | none =>
    have hc := HZ.out.2 hR
    subst hc
    clear hR
    go_wp2_with fail
    go_at_call 15
    with_reducible refine (HA.out _ H2.out.bel).mono ?_
    rintro e wz ⟨rfl, hb⟩
    have HBB := Lib.hid (H2.out.bel.trans (hb.mono H2.out.bel.size))
    clear hb
    go_wp2_with fail
    go_ret
    exact ⟨rfl, HBB.out⟩
  | some t1 =>
  have hc := (HZ.out.1 t1 hR).1
  subst hc
  have HN1 := Lib.hid (parse_nods hR)
  have HT1 := Lib.hid (HZ.out.1 t1 hR).2
  clear hR
  by_cases h1 : 12 < s.size
  · have h3b : decide ((12 : Int) < (s.size : Int)) = true := decide_eq_true (by omega)
    have h3n : decide (12 < s.size) = true := decide_eq_true h1
    clear h1
    go_wp2_with fail
    go_at_call 15
    with_reducible refine (HA.out _ H2.out.bel).mono ?_
    rintro e wz ⟨rfl, hb⟩
    have HBB := Lib.hid (H2.out.bel.trans (hb.mono H2.out.bel.size))
    clear hb
    go_wp2_with fail
    go_ret
    exact ⟨rfl, HBB.out⟩
  have h3b : decide ((12 : Int) < (s.size : Int)) = false := decide_eq_false (by omega)
  have h3n : decide (12 < s.size) = false := decide_eq_false h1
  have HS := Lib.hid (show s.data.toList.length ≤ 1024 by show s.size ≤ 1024; omega)
  clear h1
  go_upto_region 5 with fail
  clear h1b h1n h2b h2n h3b h3n k0 k1 kl
  have H3 := Lib.hid (show St w W2 [(b7, #[.int .i64 z.kind, .int .u64 (z.set 0), .int .u64 (z.set 1), .int .u64 (z.set 2), .int .u64 (z.set 3), .int .i64 z.lo, .int .i64 z.hi, .int .i64 z.num, .slice z.A z.n z.c], 28), (b5, #[.int .i64 y.kind, .int .u64 (y.set 0), .int .u64 (y.set 1), .int .u64 (y.set 2), .int .u64 (y.set 3), .int .i64 y.lo, .int .i64 y.hi, .int .i64 y.num, .slice y.A y.n y.c], 28)] [(t1, z), (t0, y)] from ⟨H2.out.bel, fun n x hx => by
    match n, hx with
    | 0, hx => exact H2.out.obs 0 x hx
    | 1, hx => exact H2.out.obs 1 x hx
    | n + 2, hx => simp at hx, fun n x hx => by
    match n, hx with
    | 0, hx =>
      simp at hx
      subst hx
      exact HT1.out
    | 1, hx =>
      simp at hx
      subst hx
      exact HT0.out.stays HB2.out
    | n + 2, hx => simp at hx⟩)
  obtain ⟨e0, e1, e2, e3, e4, e5, e6, e7, e8⟩ := node_box (H3.out.ob 1 rfl)
  have hle := lt_of_some (H3.out.ob 1 rfl)
  have hfi := find_is (s := s) true 0 (H3.out.tr 1 rfl) (HD.out.below H3.out.bel) (by have := HN0.out; omega)
  rw [NV.v_eq] at hfi
  have HF := Lib.hid hfi
  clear hfi
  go_wp2_with fail
  go_at_call 16
  with_reducible refine HF.out.mono ?_
  rintro e w3 ⟨sx, is, rfl, hfr, hbf⟩
  rename_i hK
  refine hK _ _ ?_
  clear hK
  iterate 4
    refine wpList_plain rfl (fun K2 hK2 => ?_)
    go_simp
    refine hK2 _ _ ?_
    clear hK2 K2
    try simp only [Act.put, List.setIfInBounds_toArray, List.set_cons_zero, List.set_cons_succ]
  refine wpList_mat_store rfl (.tmp 9) (.tmp 56) rfl sx rfl rfl ?_
  clear e0 e1 e2 e3 e4 e5 e6 e7 e8 hle
  obtain ⟨W3, hW3⟩ : ∃ W3, W3 = w3.alloc (.cells (spC sx) 34) := ⟨_, rfl⟩
  obtain ⟨b9, hb9⟩ : ∃ b, b = w3.heap.size := ⟨_, rfl⟩
  have H4 := Lib.hid (show St w W3 [(b9, spC sx, 34), (b7, #[.int .i64 z.kind, .int .u64 (z.set 0), .int .u64 (z.set 1), .int .u64 (z.set 2), .int .u64 (z.set 3), .int .i64 z.lo, .int .i64 z.hi, .int .i64 z.num, .slice z.A z.n z.c], 28), (b5, #[.int .i64 y.kind, .int .u64 (y.set 0), .int .u64 (y.set 1), .int .u64 (y.set 2), .int .u64 (y.set 3), .int .i64 y.lo, .int .i64 y.hi, .int .i64 y.num, .slice y.A y.n y.c], 28)] [(t1, z), (t0, y)] from by rw [hW3, hb9]; exact (H3.out.next hbf).box _ _)
  have HX := Lib.hid (FindR.ll0 hfr HS.out)
  clear hfr hbf
  go_upto_region 6 with fail
  rw [← hW3, ← hb9]
  clear hW3 hb9
  obtain ⟨e0, e1, e2, e3, e4, e5, e6, e7, e8⟩ := node_box (H4.out.ob 1 rfl)
  have hle := lt_of_some (H4.out.ob 1 rfl)
  have hfi := find_is (s := s) true 0 (H4.out.tr 0 rfl) (HD.out.below H4.out.bel) (by have := HN1.out; omega)
  rw [NV.v_eq] at hfi
  have HF := Lib.hid hfi
  clear hfi
  go_wp2_with fail
  go_at_call 16
  with_reducible refine HF.out.mono ?_
  rintro e w4 ⟨sy, has, rfl, hfr, hbf⟩
  rename_i hK
  refine hK _ _ ?_
  clear hK
  iterate 4
    refine wpList_plain rfl (fun K2 hK2 => ?_)
    go_simp
    refine hK2 _ _ ?_
    clear hK2 K2
    try simp only [Act.put, List.setIfInBounds_toArray, List.set_cons_zero, List.set_cons_succ]
  refine wpList_mat_store rfl (.tmp 11) (.tmp 62) rfl sy rfl rfl ?_
  clear e0 e1 e2 e3 e4 e5 e6 e7 e8 hle
  obtain ⟨W4, hW4⟩ : ∃ W4, W4 = w4.alloc (.cells (spC sy) 34) := ⟨_, rfl⟩
  obtain ⟨b11, hb11⟩ : ∃ b, b = w4.heap.size := ⟨_, rfl⟩
  have H5 := Lib.hid (show St w W4 [(b11, spC sy, 34), (b9, spC sx, 34), (b7, #[.int .i64 z.kind, .int .u64 (z.set 0), .int .u64 (z.set 1), .int .u64 (z.set 2), .int .u64 (z.set 3), .int .i64 z.lo, .int .i64 z.hi, .int .i64 z.num, .slice z.A z.n z.c], 28), (b5, #[.int .i64 y.kind, .int .u64 (y.set 0), .int .u64 (y.set 1), .int .u64 (y.set 2), .int .u64 (y.set 3), .int .i64 y.lo, .int .i64 y.hi, .int .i64 y.num, .slice y.A y.n y.c], 28)] [(t1, z), (t0, y)] from by rw [hW4, hb11]; exact (H4.out.next hbf).box _ _)
  have HY2 := Lib.hid (FindR.ll0 hfr HS.out)
  clear hfr hbf
  go_upto_region 7 with fail
  rw [← hW4, ← hb11]
  clear hW4 hb11
  obtain ⟨e0, e1, e2, e3, e4, e5, e6, e7, e8⟩ := node_box (H5.out.ob 3 rfl)
  have hle := lt_of_some (H5.out.ob 3 rfl)
  obtain ⟨d0, d1, d2, d3, d4, d5, d6, d7, d8⟩ := node_box (H5.out.ob 2 rfl)
  have hld := lt_of_some (H5.out.ob 2 rfl)
  obtain ⟨W5, hW5⟩ : ∃ W5, W5 = W4.alloc (.cells #[.int .i64 y.kind, .int .u64 (y.set 0), .int .u64 (y.set 1), .int .u64 (y.set 2), .int .u64 (y.set 3), .int .i64 y.lo, .int .i64 y.hi, .int .i64 y.num, .slice y.A y.n y.c, .int .i64 z.kind, .int .u64 (z.set 0), .int .u64 (z.set 1), .int .u64 (z.set 2), .int .u64 (z.set 3), .int .i64 z.lo, .int .i64 z.hi, .int .i64 z.num, .slice z.A z.n z.c] 28) := ⟨_, rfl⟩
  obtain ⟨gk, hgk⟩ : ∃ b, b = W4.heap.size := ⟨_, rfl⟩
  have H6 := Lib.hid (show St w W5 [(gk, #[.int .i64 y.kind, .int .u64 (y.set 0), .int .u64 (y.set 1), .int .u64 (y.set 2), .int .u64 (y.set 3), .int .i64 y.lo, .int .i64 y.hi, .int .i64 y.num, .slice y.A y.n y.c, .int .i64 z.kind, .int .u64 (z.set 0), .int .u64 (z.set 1), .int .u64 (z.set 2), .int .u64 (z.set 3), .int .i64 z.lo, .int .i64 z.hi, .int .i64 z.num, .slice z.A z.n z.c], 28), (b11, spC sy, 34), (b9, spC sx, 34), (b7, #[.int .i64 z.kind, .int .u64 (z.set 0), .int .u64 (z.set 1), .int .u64 (z.set 2), .int .u64 (z.set 3), .int .i64 z.lo, .int .i64 z.hi, .int .i64 z.num, .slice z.A z.n z.c], 28), (b5, #[.int .i64 y.kind, .int .u64 (y.set 0), .int .u64 (y.set 1), .int .u64 (y.set 2), .int .u64 (y.set 3), .int .i64 y.lo, .int .i64 y.hi, .int .i64 y.num, .slice y.A y.n y.c], 28)] [(t1, z), (t0, y)] from by rw [hW5, hgk]; exact H5.out.box _ _)
  have hia := alt_is (H6.out.tr 1 rfl) (H6.out.tr 0 rfl) (H6.out.ob 0 rfl) rfl
  have hfi := find_is (s := s) true 0 hia (HD.out.below H6.out.bel) (alt_nods HN0.out HN1.out)
  have hfi2 : Calls Tryz.prog 16 #[.agg #[.int .i64 3, .int .u64 0, .int .u64 0, .int .u64 0, .int .u64 0, .int .i64 0, .int .i64 0, .int .i64 0, .slice (some ⟨gk, 0, none⟩) 2 2], .string s, .int .i64 0, .bool true] W5 (FindE s.data.toList true (altPN t0 t1) 0 W5) := hfi
  have HF := Lib.hid hfi2
  clear hfi2 hfi hia
  go_wp2_with fail
  rw [← hW5, ← hgk]
  clear hW5 hgk d0 d1 d2 d3 d4 d5 d6 d7 d8 hld
  go_at_call 16
  with_reducible refine HF.out.mono ?_
  rintro e w6 ⟨sz, ok, rfl, hfr, hbf⟩
  rename_i hK
  refine hK _ _ ?_
  clear hK
  iterate 4
    refine wpList_plain rfl (fun K2 hK2 => ?_)
    go_simp
    refine hK2 _ _ ?_
    clear hK2 K2
    try simp only [Act.put, List.setIfInBounds_toArray, List.set_cons_zero, List.set_cons_succ]
  refine wpList_mat_store rfl (.tmp 13) (.tmp 71) rfl sz rfl rfl ?_
  clear e0 e1 e2 e3 e4 e5 e6 e7 e8 hle
  obtain ⟨W6, hW6⟩ : ∃ W6, W6 = w6.alloc (.cells (spC sz) 34) := ⟨_, rfl⟩
  obtain ⟨b13, hb13⟩ : ∃ b, b = w6.heap.size := ⟨_, rfl⟩
  have H7 := Lib.hid (show St w W6 [(b13, spC sz, 34), (gk, #[.int .i64 y.kind, .int .u64 (y.set 0), .int .u64 (y.set 1), .int .u64 (y.set 2), .int .u64 (y.set 3), .int .i64 y.lo, .int .i64 y.hi, .int .i64 y.num, .slice y.A y.n y.c, .int .i64 z.kind, .int .u64 (z.set 0), .int .u64 (z.set 1), .int .u64 (z.set 2), .int .u64 (z.set 3), .int .i64 z.lo, .int .i64 z.hi, .int .i64 z.num, .slice z.A z.n z.c], 28), (b11, spC sy, 34), (b9, spC sx, 34), (b7, #[.int .i64 z.kind, .int .u64 (z.set 0), .int .u64 (z.set 1), .int .u64 (z.set 2), .int .u64 (z.set 3), .int .i64 z.lo, .int .i64 z.hi, .int .i64 z.num, .slice z.A z.n z.c], 28), (b5, #[.int .i64 y.kind, .int .u64 (y.set 0), .int .u64 (y.set 1), .int .u64 (y.set 2), .int .u64 (y.set 3), .int .i64 y.lo, .int .i64 y.hi, .int .i64 y.num, .slice y.A y.n y.c], 28)] [(t1, z), (t0, y)] from by rw [hW6, hb13]; exact (H6.out.next hbf).box _ _)
  have hzz := FindR.ll0 hfr HS.out
  clear hfr hbf
  go_upto_region 8 with fail
  rw [← hW6, ← hb13]
  clear hW6 hb13
  obtain ⟨rfl, hbest⟩ := ei_find (fun i j => alt_sem) HX.out HY2.out hzz
  obtain ⟨x1, x2, hx⟩ : ∃ a b, sx 0 = (a, b) := ⟨_, _, rfl⟩
  obtain ⟨y1, y2, hy⟩ : ∃ a b, sy 0 = (a, b) := ⟨_, _, rfl⟩
  have HBE := Lib.hid hbest
  have HXY := Lib.hid (And.intro hx hy)
  obtain ⟨k0, k1⟩ := mat_box (H7.out.ob 3 rfl) hx
  have kl := lt_of_some (H7.out.ob 3 rfl)
  clear hzz hbest hx hy
  go_upto_region 9 with fail
  clear k0 k1 kl
  obtain ⟨b15, hb15⟩ : ∃ b, b = W6.heap.size := ⟨_, rfl⟩
  have H8 := Lib.hid (show St w (W6.alloc (.cells #[.int .i64 x1, .int .i64 x2] 32)) [(b15, #[.int .i64 x1, .int .i64 x2], 32), (b13, spC sz, 34), (gk, #[.int .i64 y.kind, .int .u64 (y.set 0), .int .u64 (y.set 1), .int .u64 (y.set 2), .int .u64 (y.set 3), .int .i64 y.lo, .int .i64 y.hi, .int .i64 y.num, .slice y.A y.n y.c, .int .i64 z.kind, .int .u64 (z.set 0), .int .u64 (z.set 1), .int .u64 (z.set 2), .int .u64 (z.set 3), .int .i64 z.lo, .int .i64 z.hi, .int .i64 z.num, .slice z.A z.n z.c], 28), (b11, spC sy, 34), (b9, spC sx, 34), (b7, #[.int .i64 z.kind, .int .u64 (z.set 0), .int .u64 (z.set 1), .int .u64 (z.set 2), .int .u64 (z.set 3), .int .i64 z.lo, .int .i64 z.hi, .int .i64 z.num, .slice z.A z.n z.c], 28), (b5, #[.int .i64 y.kind, .int .u64 (y.set 0), .int .u64 (y.set 1), .int .u64 (y.set 2), .int .u64 (y.set 3), .int .i64 y.lo, .int .i64 y.hi, .int .i64 y.num, .slice y.A y.n y.c], 28)] [(t1, z), (t0, y)] from by rw [hb15]; exact H7.out.box _ _)
  have H8S := Lib.hid (show St w (((W6.alloc (.cells #[.int .i64 x1, .int .i64 x2] 32)).setCell ⟨b15, 0, none⟩ (.int .i64 y1)).setCell ⟨b15, 1, none⟩ (.int .i64 y2)) [(b15, #[.int .i64 y1, .int .i64 y2], 32), (b13, spC sz, 34), (gk, #[.int .i64 y.kind, .int .u64 (y.set 0), .int .u64 (y.set 1), .int .u64 (y.set 2), .int .u64 (y.set 3), .int .i64 y.lo, .int .i64 y.hi, .int .i64 y.num, .slice y.A y.n y.c, .int .i64 z.kind, .int .u64 (z.set 0), .int .u64 (z.set 1), .int .u64 (z.set 2), .int .u64 (z.set 3), .int .i64 z.lo, .int .i64 z.hi, .int .i64 z.num, .slice z.A z.n z.c], 28), (b11, spC sy, 34), (b9, spC sx, 34), (b7, #[.int .i64 z.kind, .int .u64 (z.set 0), .int .u64 (z.set 1), .int .u64 (z.set 2), .int .u64 (z.set 3), .int .i64 z.lo, .int .i64 z.hi, .int .i64 z.num, .slice z.A z.n z.c], 28), (b5, #[.int .i64 y.kind, .int .u64 (y.set 0), .int .u64 (y.set 1), .int .u64 (y.set 2), .int .u64 (y.set 3), .int .i64 y.lo, .int .i64 y.hi, .int .i64 y.num, .slice y.A y.n y.c], 28)] [(t1, z), (t0, y)] from by rw [hb15]; exact two_set H7.out _ _)
  obtain ⟨W7, hW7⟩ : ∃ W, W = W6.alloc (.cells #[.int .i64 x1, .int .i64 x2] 32) := ⟨_, rfl⟩
  rw [← hW7] at H8 H8S ⊢
  rw [← hb15]
  clear hW7 hb15
  obtain ⟨q0, q1, q2, q3, ql⟩ := box_all (H8.out.ob 0 rfl)
  obtain ⟨m0, m1⟩ := mat_box (H8.out.ob 3 rfl) HXY.out.2
  have ml := lt_of_some (H8.out.ob 3 rfl)
  cases is with
  | false =>
    cases has with
    | false =>
      go_upto_region 11 with fail
      obtain ⟨WB, hWB⟩ : ∃ W, W = (W7.setCell ⟨b15, 0, none⟩ (.int .i64 y1)).setCell ⟨b15, 1, none⟩ (.int .i64 y2) := ⟨_, rfl⟩
      rw [← hWB] at H8S ⊢
      have HW := Lib.hid H8S.out
      clear hWB
      clear q0 q1 q2 q3 ql m0 m1 ml
      obtain ⟨z1, z2, hz⟩ : ∃ a b, sz 0 = (a, b) := ⟨_, _, rfl⟩
      have HZZ := Lib.hid hz
      clear hz
      go_wp2_with fail
      go_at_call 15
      with_reducible refine (HA.out _ HW.out.bel).mono ?_
      rintro e wz ⟨rfl, hb⟩
      have HW9 := Lib.hid (HW.out.next hb)
      obtain ⟨p0, p1⟩ := mat_box (HW9.out.ob 1 rfl) HZZ.out
      have pl := lt_of_some (HW9.out.ob 1 rfl)
      obtain ⟨q0, q1, _, _, ql⟩ := box_all (HW9.out.ob 0 rfl)
      have HBB := Lib.hid (HW.out.bel.trans (hb.mono HW.out.bel.size))
      clear hb
      go_wp2_with fail
      go_ret
      exact ⟨rfl, HBB.out⟩
    | true =>
      go_upto_region 11 with fail
      obtain ⟨WB, hWB⟩ : ∃ W, W = (W7.setCell ⟨b15, 0, none⟩ (.int .i64 y1)).setCell ⟨b15, 1, none⟩ (.int .i64 y2) := ⟨_, rfl⟩
      rw [← hWB] at H8S ⊢
      have HW := Lib.hid H8S.out
      clear hWB
      clear q0 q1 q2 q3 ql m0 m1 ml
      have hz : sz 0 = (y1, y2) := by rw [HBE.out rfl, if_pos (by rfl)]; exact HXY.out.2
      have HZZ := Lib.hid hz
      clear hz
      go_wp2_with fail
      go_at_call 15
      with_reducible refine (HA.out _ HW.out.bel).mono ?_
      rintro e wz ⟨rfl, hb⟩
      have HW9 := Lib.hid (HW.out.next hb)
      obtain ⟨p0, p1⟩ := mat_box (HW9.out.ob 1 rfl) HZZ.out
      have pl := lt_of_some (HW9.out.ob 1 rfl)
      obtain ⟨q0, q1, _, _, ql⟩ := box_all (HW9.out.ob 0 rfl)
      have HBB := Lib.hid (HW.out.bel.trans (hb.mono HW.out.bel.size))
      clear hb
      go_wp2_with fail
      go_ret
      exact ⟨rfl, HBB.out⟩
  | true =>
    cases has with
    | false =>
      go_upto_region 11 with fail
      have HW := Lib.hid H8.out
      clear q0 q1 q2 q3 ql m0 m1 ml
      have hz : sz 0 = (x1, x2) := by rw [HBE.out rfl, if_neg (by simp)]; exact HXY.out.1
      have HZZ := Lib.hid hz
      clear hz
      go_wp2_with fail
      go_at_call 15
      with_reducible refine (HA.out _ HW.out.bel).mono ?_
      rintro e wz ⟨rfl, hb⟩
      have HW9 := Lib.hid (HW.out.next hb)
      obtain ⟨p0, p1⟩ := mat_box (HW9.out.ob 1 rfl) HZZ.out
      have pl := lt_of_some (HW9.out.ob 1 rfl)
      obtain ⟨q0, q1, _, _, ql⟩ := box_all (HW9.out.ob 0 rfl)
      have HBB := Lib.hid (HW.out.bel.trans (hb.mono HW.out.bel.size))
      clear hb
      go_wp2_with fail
      go_ret
      exact ⟨rfl, HBB.out⟩
    | true =>
      by_cases h1 : y1 < x1
      · have HH := Lib.hid (show better (sx 0) (sy 0) = true from by rw [HXY.out.1, HXY.out.2]; unfold better; simp only []; rw [decide_eq_true h1]; rfl)
        have g1 : decide (y1 < x1) = true := decide_eq_true h1
        clear h1
        go_upto_region 11 with fail
        obtain ⟨WB, hWB⟩ : ∃ W, W = (W7.setCell ⟨b15, 0, none⟩ (.int .i64 y1)).setCell ⟨b15, 1, none⟩ (.int .i64 y2) := ⟨_, rfl⟩
        rw [← hWB] at H8S ⊢
        have HW := Lib.hid H8S.out
        clear hWB
        clear q0 q1 q2 q3 ql m0 m1 ml
        have hz : sz 0 = (y1, y2) := by rw [HBE.out rfl, if_pos (by rw [HH.out]; rfl)]; exact HXY.out.2
        have HZZ := Lib.hid hz
        clear hz
        go_wp2_with fail
        go_at_call 15
        with_reducible refine (HA.out _ HW.out.bel).mono ?_
        rintro e wz ⟨rfl, hb⟩
        have HW9 := Lib.hid (HW.out.next hb)
        obtain ⟨p0, p1⟩ := mat_box (HW9.out.ob 1 rfl) HZZ.out
        have pl := lt_of_some (HW9.out.ob 1 rfl)
        obtain ⟨q0, q1, _, _, ql⟩ := box_all (HW9.out.ob 0 rfl)
        have HBB := Lib.hid (HW.out.bel.trans (hb.mono HW.out.bel.size))
        clear hb
        go_wp2_with fail
        go_ret
        exact ⟨rfl, HBB.out⟩
      by_cases h2 : y1 = x1
      · by_cases h3 : x2 < y2
        · have HH := Lib.hid (show better (sx 0) (sy 0) = true from by rw [HXY.out.1, HXY.out.2]; unfold better; simp only []; rw [decide_eq_true h2, decide_eq_true h3]; simp)
          have g1 : decide (y1 < x1) = false := decide_eq_false h1
          have g2 : (y1 == x1) = true := beq_iff_eq.2 h2
          have g3 : decide (x2 < y2) = true := decide_eq_true h3
          clear h1 h2 h3
          go_upto_region 11 with fail
          obtain ⟨WB, hWB⟩ : ∃ W, W = (W7.setCell ⟨b15, 0, none⟩ (.int .i64 y1)).setCell ⟨b15, 1, none⟩ (.int .i64 y2) := ⟨_, rfl⟩
          rw [← hWB] at H8S ⊢
          have HW := Lib.hid H8S.out
          clear hWB
          clear q0 q1 q2 q3 ql m0 m1 ml
          have hz : sz 0 = (y1, y2) := by rw [HBE.out rfl, if_pos (by rw [HH.out]; rfl)]; exact HXY.out.2
          have HZZ := Lib.hid hz
          clear hz
          go_wp2_with fail
          go_at_call 15
          with_reducible refine (HA.out _ HW.out.bel).mono ?_
          rintro e wz ⟨rfl, hb⟩
          have HW9 := Lib.hid (HW.out.next hb)
          obtain ⟨p0, p1⟩ := mat_box (HW9.out.ob 1 rfl) HZZ.out
          have pl := lt_of_some (HW9.out.ob 1 rfl)
          obtain ⟨q0, q1, _, _, ql⟩ := box_all (HW9.out.ob 0 rfl)
          have HBB := Lib.hid (HW.out.bel.trans (hb.mono HW.out.bel.size))
          clear hb
          go_wp2_with fail
          go_ret
          exact ⟨rfl, HBB.out⟩
        · have HH := Lib.hid (show better (sx 0) (sy 0) = false from by rw [HXY.out.1, HXY.out.2]; unfold better; simp only []; rw [decide_eq_false h1, decide_eq_true h2, decide_eq_false h3]; rfl)
          have g1 : decide (y1 < x1) = false := decide_eq_false h1
          have g2 : (y1 == x1) = true := beq_iff_eq.2 h2
          have g3 : decide (x2 < y2) = false := decide_eq_false h3
          clear h1 h2 h3
          go_upto_region 11 with fail
          have HW := Lib.hid H8.out
          clear q0 q1 q2 q3 ql m0 m1 ml
          have hz : sz 0 = (x1, x2) := by rw [HBE.out rfl, if_neg (by rw [HH.out]; decide)]; exact HXY.out.1
          have HZZ := Lib.hid hz
          clear hz
          go_wp2_with fail
          go_at_call 15
          with_reducible refine (HA.out _ HW.out.bel).mono ?_
          rintro e wz ⟨rfl, hb⟩
          have HW9 := Lib.hid (HW.out.next hb)
          obtain ⟨p0, p1⟩ := mat_box (HW9.out.ob 1 rfl) HZZ.out
          have pl := lt_of_some (HW9.out.ob 1 rfl)
          obtain ⟨q0, q1, _, _, ql⟩ := box_all (HW9.out.ob 0 rfl)
          have HBB := Lib.hid (HW.out.bel.trans (hb.mono HW.out.bel.size))
          clear hb
          go_wp2_with fail
          go_ret
          exact ⟨rfl, HBB.out⟩
      · have HH := Lib.hid (show better (sx 0) (sy 0) = false from by rw [HXY.out.1, HXY.out.2]; unfold better; simp only []; rw [decide_eq_false h1, decide_eq_false h2]; rfl)
        have g1 : decide (y1 < x1) = false := decide_eq_false h1
        have g2 : (y1 == x1) = false := beq_eq_false_iff_ne.2 h2
        clear h1 h2
        go_upto_region 11 with fail
        have HW := Lib.hid H8.out
        clear q0 q1 q2 q3 ql m0 m1 ml
        have hz : sz 0 = (x1, x2) := by rw [HBE.out rfl, if_neg (by rw [HH.out]; decide)]; exact HXY.out.1
        have HZZ := Lib.hid hz
        clear hz
        go_wp2_with fail
        go_at_call 15
        with_reducible refine (HA.out _ HW.out.bel).mono ?_
        rintro e wz ⟨rfl, hb⟩
        have HW9 := Lib.hid (HW.out.next hb)
        obtain ⟨p0, p1⟩ := mat_box (HW9.out.ob 1 rfl) HZZ.out
        have pl := lt_of_some (HW9.out.ob 1 rfl)
        obtain ⟨q0, q1, _, _, ql⟩ := box_all (HW9.out.ob 0 rfl)
        have HBB := Lib.hid (HW.out.bel.trans (hb.mono HW.out.bel.size))
        clear hb
        go_wp2_with fail
        go_ret
        exact ⟨rfl, HBB.out⟩
end Go.Proofs.YtcbgbicdfpkikaaGreatDoor

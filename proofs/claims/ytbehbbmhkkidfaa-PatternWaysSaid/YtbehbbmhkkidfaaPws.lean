/-
  PatternWays' walk. Conditions: the world holds what strings.Index asks; the shapes lie in memory.
-/
import Derived.Test.YtbehbbmhkkidfaaPst
import Derived.Test.YtbehbbmhkkidfaaPbt4
import Derived.Test.YtbehbbmhkkidfaaPsize
import Derived.Deep.CutBlock
namespace Go.Proofs.Ytbehbbmhkkidfaa
open Go.RowKit Go.Deep Go.Sort

theorem built_all {A : Option Addr} {ls : List SM} {cp : Nat} (hok : ∀ s ∈ ls, s.ok) : ∀ d, d ≤ 3 → BuiltOk A ls cp d
  | 0, h => built_of hok 0 (fun d' h => by omega) h
  | d + 1, h => built_of hok (d + 1) (fun d' e => by
    have : d' = d := by omega
    subst this
    exact built_all hok d' (by omega)) h
/-- Parse, of a text that is known to be one. -/
theorem parse_some {s : ByteArray} {ext : Bool} {t : PN} (h : parseP bkOf ext s.data.toList = some t) (w : World) (hM : MaxAt w) : Calls Try.prog 8 #[.string s, .bool ext] w fun e w' => ∃ y : NV, e = .returned (.tuple #[y.v, .int .i64 0]) ∧ IsP (fun _ => False) w' t y ∧ Below w.heap.size w w' := by
  have h2 := parse_of s ext w hM
  rw [h] at h2
  exact h2.mono fun e w' ⟨y, he, hy, hb⟩ => ⟨y, he, hy.weaken fun k h => h.elim, hb⟩
/-- A row of one joined: its node itself. -/
theorem row_of_one {s : Nat} {w1 : World} {L : List Sh} {y : NV} (h1 : L.length = 1) (hk : AllP (· < s) w1 (shPL L 0) [y]) (o : Obj) : IsP (fun _ => False) (w1.alloc o) (joinK 2 (shPL L 0)) y := by
  obtain ⟨a, rfl⟩ := List.length_eq_one_iff.1 h1
  have e : shPL [a] 0 = [shP a 0] := by rw [shPL.eq_2, shPL.eq_1]
  rw [e] at hk ⊢
  exact (IsP.weaken (T := fun _ => False) (fun k (h : False) => h.elim) (hk.2 0 _ _ rfl rfl)).stays (bA w1 o)
/-- Any other row joined: a node over it. -/
theorem row_of_some {s : Nat} {w1 : World} {L : List Sh} {xs : List NV} {A : Option Addr} {c : Nat} (h1 : L.length ≠ 1) (hk : AllP (· < s) w1 (shPL L 0) xs) (hA : RawOff (· < s) w1 A (nsV xs)) (hc : L.length ≤ c) (o : Obj) : IsP (fun _ => False) (w1.alloc o) (joinK 2 (shPL L 0)) ⟨2, noS, 0, 0, 0, A, L.length, c⟩ := by
  rw [join_two' (by rw [shPL_len]; exact h1)]
  have hb := bA w1 o
  have h : IsP (fun _ => False) w1 (.mk 2 noS 0 0 0 (shPL L 0)) ⟨2, noS, 0, 0, 0, A, (shPL L 0).length, c⟩ := .mk xs hk.1 (by rw [shPL_len]; exact hc) (hA.weaken fun k (h : False) => h.elim) fun i t x ht hx => (hk.2 i t x ht hx).weaken fun k (h : False) => h.elim
  have h2 := h.stays hb
  rw [shPL_len] at h2
  exact h2
set_option maxRecDepth 100000 in
set_option maxHeartbeats 4000000 in
theorem ways_any (A : Option Addr) (ls : List SM) (cp : Nat) (w : World) (hat : RawAt w A (smV ls)) (hok : ∀ s ∈ ls, s.ok) (hM : MaxAt w) : Calls Try.prog 4 #[.slice A ls.length cp] w (TrueC w) := by
  have HA := Lib.hid fun (W : World) (hW : Below w.heap.size w W) => alive_is W (hM.below hW)
  have HM := Lib.hid fun (W : World) (hW : Below w.heap.size w W) => hM.below hW
  have hbu : Calls Try.prog 10 #[.slice A ls.length cp, .int .i64 0, .int .i64 1, .int .i64 3] w (BAns w 0 0) := built_all hok 3 (by omega) w 0 0 hat (by omega) (by omega)
  obtain ⟨n, hn⟩ : ∃ n, n = ls.length := ⟨_, rfl⟩
  rw [← hn] at hbu ⊢
  have HBU := Lib.hid hbu
  clear hbu hat hok hM hn
  go_enter Try.func4, Try.ntmps4
  go_wp2_with fail
  go_at_call 10
  with_reducible refine HBU.out.mono ?_
  rintro e w1 ⟨L, xs, A1, c1, a1, g1, rfl, hk, hc, hA, hb1, hokl, hn1⟩
  obtain ⟨m, hm⟩ : ∃ m, m = L.length := ⟨_, rfl⟩
  have HB1 := Lib.hid hb1
  have HK := Lib.hid (And.intro hk (And.intro hc (And.intro hA (And.intro hokl (And.intro hn1 hm)))))
  rw [← hm]
  clear hk hc hA hb1 hokl hn1 hm
  by_cases h0 : m = 0
  · have d0 : ((m : Int) == 0) = true := by rw [h0]; rfl
    have d0n : (m == 0) = true := by rw [h0]; rfl
    clear h0
    go_wp2_with fail
    go_at_call 7
    with_reducible refine (HA.out _ HB1.out).mono ?_
    rintro e wz ⟨rfl, hb⟩
    have HBB := Lib.hid (HB1.out.trans (hb.mono HB1.out.size))
    clear hb
    go_wp2_with fail
    go_ret
    exact ⟨rfl, HBB.out⟩
  have d0 : ((m : Int) == 0) = false := by rw [beq_eq_false_iff_ne]; omega
  have d0n : (m == 0) = false := by rw [beq_eq_false_iff_ne]; exact h0
  obtain ⟨one, hone⟩ : ∃ b, b = (m == 1) := ⟨_, rfl⟩
  have honeI : ((m : Int) == 1) = one := by rw [hone]; exact decide_eq_decide.2 (by omega)
  have HONE := Lib.hid hone
  have H0 := Lib.hid h0
  rw [hone] at honeI
  have honeN : (m == 1) = one := hone.symm
  rw [← hone] at honeI
  clear hone h0
  go_upto_if 29 with fail
  go_cut [] from 30 to 32 (fun wx => ∃ y : NV, wx = w1.alloc (.cells #[.int .i64 y.kind, .int .u64 (y.set 0), .int .u64 (y.set 1), .int .u64 (y.set 2), .int .u64 (y.set 3), .int .i64 y.lo, .int .i64 y.hi, .int .i64 y.num, .slice y.A y.n y.c] 30) ∧ IsP (fun _ => False) wx (joinK 2 (shPL L 0)) y)
  case first =>
    cases one with
    | true =>
      have hm1 : m = 1 := eq_of_beq HONE.out.symm
      subst hm1
      obtain ⟨y, rfl⟩ := List.length_eq_one_iff.1 (show xs.length = 1 by have := HK.out.1.1; rw [this, shPL_len]; exact HK.out.2.2.2.2.2.symm)
      have hy := row_of_one HK.out.2.2.2.2.2.symm HK.out.1
      obtain ⟨b1, o1, he1, hbl1, hcs1⟩ := off_at HK.out.2.2.1 (by simp)
      subst he1
      obtain ⟨m0, m1, m2, m3, m4, m5, m6, m7, m8⟩ := hcs1 0 y rfl
      simp only [Nat.zero_mul, Nat.add_zero] at m0 m1 m2 m3 m4 m5 m6 m7 m8
      have HY := Lib.hid hy
      clear hcs1 hy
      go_wp2_with fail
      go_meet
      case rel => exact ⟨y, rfl, HY.out _⟩
    | false =>
      have HY := Lib.hid (row_of_some (by have := HONE.out; intro e; rw [← HK.out.2.2.2.2.2] at e; rw [e] at this; simp at this) HK.out.1 HK.out.2.2.1 HK.out.2.1)
      go_wp2_with fail
      go_meet
      case rel => exact ⟨⟨2, noS, 0, 0, 0, A1, L.length, c1⟩, by rw [← HK.out.2.2.2.2.2]; rfl, HY.out _⟩
  obtain ⟨y, hwx, hy⟩ := hcut
  have KW := Lib.hid fun ext => written_sh ext 0 HK.out.2.2.2.1.1 HK.out.2.2.2.1.2.1 HK.out.2.2.2.1.2.2 (by have h1 := shBL_len ext L; have h2 := HK.out.2.2.2.2.1; omega)
  have KP := Lib.hid fun ext (h : (shBL ext L).length ≤ 200) => parse_sh bkOf ext (by have h1 := H0.out; rw [HK.out.2.2.2.2.2] at h1; intro e; rw [e] at h1; exact h1 rfl) HK.out.2.2.2.1.1 (by have h2 := HK.out.2.2.2.2.1; omega) h
  have FT := Lib.hid (few_joined (few_shL L 0 HK.out.2.2.2.1.2.1) (by have := HK.out.2.2.2.1.2.2; rw [shPL_len]; omega))
  obtain ⟨t, ht⟩ : ∃ t, t = joinK 2 (shPL L 0) := ⟨_, rfl⟩
  rw [← ht] at KW KP FT hy
  obtain ⟨b, hb⟩ : ∃ b, b = w1.heap.size := ⟨_, rfl⟩
  have HS0 := Lib.hid (show St w wc [(b, #[.int .i64 y.kind, .int .u64 (y.set 0), .int .u64 (y.set 1), .int .u64 (y.set 2), .int .u64 (y.set 3), .int .i64 y.lo, .int .i64 y.hi, .int .i64 y.num, .slice y.A y.n y.c], 30)] [(t, y)] from by rw [hb]; subst hwx; exact (((St.start w).next HB1.out).box _ _).tree hy)
  rw [← hb]
  clear hb hwx hy ht d0 d0n honeI honeN HONE H0 HBU
  obtain ⟨e0, e1, e2, e3, e4, e5, e6, e7, e8⟩ := node_box (HS0.out.ob 0 rfl)
  have hle := lt_of_some (HS0.out.ob 0 rfl)
  have hwr := KW.out false _ wc y (HS0.out.tr 0 rfl)
  rw [NV.v_eq] at hwr
  have HW := Lib.hid hwr
  clear hwr
  go_wp2_with fail
  go_at_call 11
  with_reducible refine HW.out.mono ?_
  rintro e w2 ⟨s1, rfl, hs1, hb2⟩
  have HS1 := Lib.hid (HS0.out.next hb2)
  have HL1 := Lib.hid hs1
  clear e0 e1 e2 e3 e4 e5 e6 e7 e8 hle HW hs1 hb2
  obtain ⟨e0, e1, e2, e3, e4, e5, e6, e7, e8⟩ := node_box (HS1.out.ob 0 rfl)
  have hle := lt_of_some (HS1.out.ob 0 rfl)
  have hwr := KW.out true _ w2 y (HS1.out.tr 0 rfl)
  rw [NV.v_eq] at hwr
  have HW := Lib.hid hwr
  clear hwr
  go_wp2_with fail
  go_at_call 11
  with_reducible refine HW.out.mono ?_
  rintro e w3 ⟨s2, rfl, hs1, hb2⟩
  have HS2 := Lib.hid (HS1.out.next hb2)
  have HL2 := Lib.hid hs1
  clear e0 e1 e2 e3 e4 e5 e6 e7 e8 hle HW hs1 hb2
  by_cases g1 : s1.size ≤ 200
  case neg =>
    have z1 : decide ((200 : Int) < (s1.size : Int)) = true := decide_eq_true (by omega)
    have z1n : decide (200 < s1.size) = true := decide_eq_true (by omega)
    clear g1
    go_wp2_with fail
    go_at_call 7
    with_reducible refine (HA.out _ HS2.out.bel).mono ?_
    rintro e wz ⟨rfl, hb⟩
    have HBB := Lib.hid (HS2.out.bel.trans (hb.mono HS2.out.bel.size))
    clear hb
    go_wp2_with fail
    go_ret
    exact ⟨rfl, HBB.out⟩
  have z1 : decide ((200 : Int) < (s1.size : Int)) = false := decide_eq_false (by omega)
  have z1n : decide (200 < s1.size) = false := decide_eq_false (by omega)
  by_cases g2 : s2.size ≤ 200
  case neg =>
    have z2 : decide ((200 : Int) < (s2.size : Int)) = true := decide_eq_true (by omega)
    have z2n : decide (200 < s2.size) = true := decide_eq_true (by omega)
    clear g1 g2
    go_wp2_with fail
    go_at_call 7
    with_reducible refine (HA.out _ HS2.out.bel).mono ?_
    rintro e wz ⟨rfl, hb⟩
    have HBB := Lib.hid (HS2.out.bel.trans (hb.mono HS2.out.bel.size))
    clear hb
    go_wp2_with fail
    go_ret
    exact ⟨rfl, HBB.out⟩
  have z2 : decide ((200 : Int) < (s2.size : Int)) = false := decide_eq_false (by omega)
  have z2n : decide (200 < s2.size) = false := decide_eq_false (by omega)
  have G := Lib.hid (And.intro g1 g2)
  clear g1 g2
  have hp := parse_some (s := s1) (ext := false) (t := t) (by rw [HL1.out]; exact KP.out false (by rw [← HL1.out]; simpa using G.out.1)) w3 (HM.out _ HS2.out.bel)
  have HP := Lib.hid hp
  clear hp
  go_wp2_with fail
  go_at_call 8
  with_reducible refine HP.out.mono ?_
  rintro e w4 ⟨x1, rfl, hx, hb2⟩
  have HS3 := Lib.hid (((HS2.out.next hb2).tree hx).box #[.int .i64 x1.kind, .int .u64 (x1.set 0), .int .u64 (x1.set 1), .int .u64 (x1.set 2), .int .u64 (x1.set 3), .int .i64 x1.lo, .int .i64 x1.hi, .int .i64 x1.num, .slice x1.A x1.n x1.c] 30)
  clear z1 z1n z2 z2n HP hx hb2
  rw [NV.v_eq]
  have hp := parse_some (s := s2) (ext := true) (t := t) (by rw [HL2.out]; exact KP.out true (by rw [← HL2.out]; simpa using G.out.2)) (w4.alloc (.cells #[.int .i64 x1.kind, .int .u64 (x1.set 0), .int .u64 (x1.set 1), .int .u64 (x1.set 2), .int .u64 (x1.set 3), .int .i64 x1.lo, .int .i64 x1.hi, .int .i64 x1.num, .slice x1.A x1.n x1.c] 30)) (HM.out _ HS3.out.bel)
  have HP := Lib.hid hp
  clear hp
  go_wp2_with fail
  go_at_call 8
  with_reducible refine HP.out.mono ?_
  rintro e w5 ⟨x2, rfl, hx, hb2⟩
  have HS4 := Lib.hid ((HS3.out.next hb2).tree hx)
  have HS5 := Lib.hid (HS4.out.box #[.int .i64 x2.kind, .int .u64 (x2.set 0), .int .u64 (x2.set 1), .int .u64 (x2.set 2), .int .u64 (x2.set 3), .int .i64 x2.lo, .int .i64 x2.hi, .int .i64 x2.num, .slice x2.A x2.n x2.c] 30)
  clear HP hx hb2
  rw [NV.v_eq]
  obtain ⟨b4, hbb⟩ : ∃ b, b = w4.heap.size := ⟨_, rfl⟩
  rw [← hbb] at HS4 HS5 ⊢
  clear hbb
  obtain ⟨e0, e1, e2, e3, e4, e5, e6, e7, e8⟩ := node_box (HS4.out.ob 0 rfl)
  have hle := lt_of_some (HS4.out.ob 0 rfl)
  obtain ⟨f0, f1, f2, f3, f4, f5, f6, f7, f8⟩ := node_box (HS4.out.ob 1 rfl)
  have hlf := lt_of_some (HS4.out.ob 1 rfl)
  have hsm := same_is FT.out _ _ (w5.alloc (.cells #[.int .i64 x2.kind, .int .u64 (x2.set 0), .int .u64 (x2.set 1), .int .u64 (x2.set 2), .int .u64 (x2.set 3), .int .i64 x2.lo, .int .i64 x2.hi, .int .i64 x2.num, .slice x2.A x2.n x2.c] 30)) x1 y (HS5.out.tr 1 rfl) (HS5.out.tr 2 rfl)
  rw [NV.v_eq, NV.v_eq] at hsm
  have HSM := Lib.hid hsm
  clear hsm
  go_wp2_with fail
  go_at_call 12
  with_reducible refine HSM.out.mono ?_
  rintro e w6 ⟨rfl, hb2⟩
  clear e0 e1 e2 e3 e4 e5 e6 e7 e8 f0 f1 f2 f3 f4 f5 f6 f7 f8 hle hlf HSM
  have HS6 := Lib.hid (HS5.out.next hb2)
  clear hb2
  obtain ⟨b5, hbb⟩ : ∃ b, b = w5.heap.size := ⟨_, rfl⟩
  rw [← hbb] at HS6 ⊢
  clear hbb
  obtain ⟨e0, e1, e2, e3, e4, e5, e6, e7, e8⟩ := node_box (HS6.out.ob 0 rfl)
  have hle := lt_of_some (HS6.out.ob 0 rfl)
  obtain ⟨f0, f1, f2, f3, f4, f5, f6, f7, f8⟩ := node_box (HS6.out.ob 2 rfl)
  have hlf := lt_of_some (HS6.out.ob 2 rfl)
  have hsm := same_is FT.out _ _ w6 x2 y (HS6.out.tr 0 rfl) (HS6.out.tr 2 rfl)
  rw [NV.v_eq, NV.v_eq] at hsm
  have HSM := Lib.hid hsm
  clear hsm
  go_wp2_with fail
  go_at_call 12
  with_reducible refine HSM.out.mono ?_
  rintro e w7 ⟨rfl, hb2⟩
  clear e0 e1 e2 e3 e4 e5 e6 e7 e8 f0 f1 f2 f3 f4 f5 f6 f7 f8 hle hlf HSM
  have HS7 := Lib.hid (HS6.out.next hb2)
  clear hb2
  go_wp2_with fail
  go_at_call 7
  with_reducible refine (HA.out _ HS7.out.bel).mono ?_
  rintro e wz ⟨rfl, hb⟩
  have HBB := Lib.hid (HS7.out.bel.trans (hb.mono HS7.out.bel.size))
  clear hb
  go_wp2_with fail
  go_ret
  exact ⟨rfl, HBB.out⟩
end Go.Proofs.Ytbehbbmhkkidfaa

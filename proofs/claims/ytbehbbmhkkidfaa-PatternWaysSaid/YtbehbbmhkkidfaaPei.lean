/-
  PatternEither's walk. Conditions: the world holds what strings.Index asks; texts that a machine holds.
-/
import Derived.Test.YtbehbbmhkkidfaaPplw
import Derived.Test.YtbehbbmhkkidfaaPalive
import Derived.Test.YtbehbbmhkkidfaaPsame
import Derived.Test.YtbehbbmhkkidfaaPsh
import Derived.BigGuard
namespace Go.Proofs.Ytbehbbmhkkidfaa
open Go.RowKit Go.Deep Go.Sort

/-- A node in a box of its own. -/
def BoxN (w : World) (b : Nat) (x : NV) : Prop := w.heap[b]? = some (.cells #[.int .i64 x.kind, .int .u64 (x.set 0), .int .u64 (x.set 1), .int .u64 (x.set 2), .int .u64 (x.set 3), .int .i64 x.lo, .int .i64 x.hi, .int .i64 x.num, .slice x.A x.n x.c] 30)
theorem BoxN.new (w : World) (x : NV) : BoxN (w.alloc (.cells #[.int .i64 x.kind, .int .u64 (x.set 0), .int .u64 (x.set 1), .int .u64 (x.set 2), .int .u64 (x.set 3), .int .i64 x.lo, .int .i64 x.hi, .int .i64 x.num, .slice x.A x.n x.c] 30)) w.heap.size x := new_obj w _
theorem BoxN.lt {w : World} {b : Nat} {x : NV} (h : BoxN w b x) : b < w.heap.size := lt_of_some h
theorem BoxN.stays {w w' : World} {b : Nat} {x : NV} (h : BoxN w b x) (hb : Below w.heap.size w w') : BoxN w' b x := Below.obj hb h h.lt
abbrev NoB : Nat → Prop := fun _ => False
/-- A node over n kids in a row of its own. -/
def overN (k lo hi num : Int) (b n : Nat) : NV := ⟨k, noS, lo, hi, num, some ⟨b, 0, none⟩, n, n⟩
theorem row_cells {w : World} {b : Nat} {vs : List Value} {T : TypeId} (h : w.heap[b]? = some (.cells vs.toArray T)) : w.rangeAt b 0 vs := fun j v hv => by
  rw [Nat.zero_add]
  have := obj_cell (fr := (0, 0)) h j
  rw [this]
  simpa using hv
theorem over_one {w : World} {b : Nat} {t : PN} {x : NV} (h : IsP NoB w t x) (hb : w.heap[b]? = some (.cells #[.int .i64 x.kind, .int .u64 (x.set 0), .int .u64 (x.set 1), .int .u64 (x.set 2), .int .u64 (x.set 3), .int .i64 x.lo, .int .i64 x.hi, .int .i64 x.num, .slice x.A x.n x.c] 30)) (k lo hi num : Int) : IsP NoB w (.mk k noS lo hi num [t]) (overN k lo hi num b 1) :=
  .mk [x] rfl (Nat.le_refl _) (.inr ⟨b, 0, rfl, id, row_cells (vs := nsV [x]) hb⟩) fun i s y hs hy => by
    match i with
    | 0 => cases hs; cases hy; exact h
    | i + 1 => simp at hs
theorem over_two {w : World} {b : Nat} {t u : PN} {x y : NV} (h : IsP NoB w t x) (h' : IsP NoB w u y) (hb : w.heap[b]? = some (.cells #[.int .i64 x.kind, .int .u64 (x.set 0), .int .u64 (x.set 1), .int .u64 (x.set 2), .int .u64 (x.set 3), .int .i64 x.lo, .int .i64 x.hi, .int .i64 x.num, .slice x.A x.n x.c, .int .i64 y.kind, .int .u64 (y.set 0), .int .u64 (y.set 1), .int .u64 (y.set 2), .int .u64 (y.set 3), .int .i64 y.lo, .int .i64 y.hi, .int .i64 y.num, .slice y.A y.n y.c] 30)) (k lo hi num : Int) : IsP NoB w (.mk k noS lo hi num [t, u]) (overN k lo hi num b 2) :=
  .mk [x, y] rfl (Nat.le_refl _) (.inr ⟨b, 0, rfl, id, row_cells (vs := nsV [x, y]) hb⟩) fun i s z hs hz => by
    match i with
    | 0 => cases hs; cases hz; exact h
    | 1 => cases hs; cases hz; exact h'
    | i + 2 => simp at hs
theorem join_two' {k : Int} {l : List PN} (h : l.length ≠ 1) : joinK k l = .mk k noS 0 0 0 l := by
  match l, h with
  | [], _ => rfl
  | [x], h => exact absurd rfl h
  | x :: y :: r, _ => rfl
theorem few_row {l : List UInt8} (h : l.length ≤ 9) : Few (joinK 2 (l.map oneN)) := by
  have ho : ∀ t ∈ l.map oneN, Few t := fun t ht => by
    obtain ⟨c, _, rfl⟩ := List.mem_map.1 ht
    exact .mk _ _ _ _ _ _ (Nat.zero_le _) fun t h => by cases h
  by_cases h1 : (l.map oneN).length = 1
  · obtain ⟨t, ht⟩ := List.length_eq_one_iff.1 h1
    rw [ht]
    exact ho t (by rw [ht]; exact List.mem_cons_self ..)
  · rw [join_two' h1]
    exact .mk _ _ _ _ _ _ (by rw [List.length_map]; omega) ho
theorem few_one {t : PN} (h : Few t) (k : Int) (T : Nat → Nat) (lo hi num : Int) : Few (.mk k T lo hi num [t]) := .mk _ _ _ _ _ _ (by simp) fun u hu => by
  rw [List.mem_singleton] at hu
  exact hu ▸ h
theorem few_two {t u : PN} (h : Few t) (h' : Few u) (k : Int) (T : Nat → Nat) (lo hi num : Int) : Few (.mk k T lo hi num [t, u]) := .mk _ _ _ _ _ _ (by simp) fun v hv => by
  rw [List.mem_cons, List.mem_singleton] at hv
  rcases hv with rfl | rfl
  · exact h
  · exact h'
theorem none_of {W w' : World} {t : PN} {y : NV} (h : IsP (· < W.heap.size) w' t y) : IsP NoB w' t y := h.weaken fun _ h => h.elim
theorem concat3 (a b c : ByteArray) : (a ++ b ++ c).data.toList = a.data.toList ++ b.data.toList ++ c.data.toList := by simp
set_option maxRecDepth 100000 in
set_option maxHeartbeats 4000000 in
theorem either_any (a b : ByteArray) (n : Int) (hza : a.size < 140737488355328) (hzb : b.size < 140737488355328) (w : World) (hM : MaxAt w) : Calls Try.prog 5 #[.string a, .string b, .int .i64 n] w (TrueC w) := by
  have HA := Lib.hid fun (W : World) (hW : Below w.heap.size w W) => alive_is W (hM.below hW)
  have HP := Lib.hid fun (W : World) => plain_is a hza W
  have HQ := Lib.hid fun (W : World) => plain_is b hzb W
  have HPP := Lib.hid fun (s : ByteArray) (t : PN) (W : World) (hW : Below w.heap.size w W) (ht : parseP bkOf true s.data.toList = some t) => (ht ▸ parse_of s true W (hM.below hW) : Calls Try.prog 8 #[.string s, .bool true] W (ParseAns (some t) W))
  clear hM hza hzb
  go_enter Try.func5, Try.ntmps5
  go_wp2_with fail
  go_at_call 6
  refine (HP.out _).mono ?_
  rintro e w0 ⟨p, rfl, hw0, hpl⟩
  subst w0
  go_wp2_with fail
  go_at_call 6
  refine (HQ.out _).mono ?_
  rintro e w0 ⟨q, rfl, hw0, hql⟩
  subst w0
  have HPL := Lib.hid hpl
  have HQL := Lib.hid hql
  clear hpl hql
  by_cases hbad : p = true ∧ q = true ∧ a.size ≤ 9 ∧ b.size ≤ 9 ∧ 0 ≤ n ∧ n ≤ 20
  case neg =>
    go_upto_region 3 with fail
    go_cut [51] from 24 to 51 (fun t wx => t = .bool true ∧ wx = w)
    case first =>
      by_cases g1 : p = true
      · subst g1
        by_cases g2 : q = true
        · subst g2
          by_cases g3 : a.size ≤ 9
          · by_cases g4 : b.size ≤ 9
            · by_cases g5 : 0 ≤ n
              · have zb : decide ((9 : Int) < (b.size : Int)) = false := decide_eq_false (by omega)
                have za : decide ((9 : Int) < (a.size : Int)) = false := decide_eq_false (by omega)
                have zbn : decide (9 < b.size) = false := decide_eq_false (by omega)
                have zan : decide (9 < a.size) = false := decide_eq_false (by omega)
                have zn : decide (n < 0) = false := decide_eq_false (by omega)
                have hno : ¬ n ≤ 20 := fun h => hbad ⟨rfl, rfl, g3, g4, g5, h⟩
                have zm : decide ((20 : Int) < n) = true := decide_eq_true (by omega)
                clear hbad hno g3 g4 g5
                go_wp2_with fail
                go_meet
                case rel => exact ⟨rfl, rfl⟩
              · have zb : decide ((9 : Int) < (b.size : Int)) = false := decide_eq_false (by omega)
                have za : decide ((9 : Int) < (a.size : Int)) = false := decide_eq_false (by omega)
                have zbn : decide (9 < b.size) = false := decide_eq_false (by omega)
                have zan : decide (9 < a.size) = false := decide_eq_false (by omega)
                have zn : decide (n < 0) = true := decide_eq_true (by omega)
                clear hbad g3 g4 g5
                go_wp2_with fail
                go_meet
                case rel => exact ⟨rfl, rfl⟩
            · have zb : decide ((9 : Int) < (b.size : Int)) = true := decide_eq_true (by omega)
              have za : decide ((9 : Int) < (a.size : Int)) = false := decide_eq_false (by omega)
              have zbn : decide (9 < b.size) = true := decide_eq_true (by omega)
              have zan : decide (9 < a.size) = false := decide_eq_false (by omega)
              clear hbad g3 g4
              go_wp2_with fail
              go_meet
              case rel => exact ⟨rfl, rfl⟩
          · have za : decide ((9 : Int) < (a.size : Int)) = true := decide_eq_true (by omega)
            have zan : decide (9 < a.size) = true := decide_eq_true (by omega)
            clear hbad g3
            go_wp2_with fail
            go_meet
            case rel => exact ⟨rfl, rfl⟩
        · obtain rfl : q = false := by cases q <;> simp_all
          clear hbad g2
          go_wp2_with fail
          go_meet
          case rel => exact ⟨rfl, rfl⟩
      · obtain rfl : p = false := by cases p <;> simp_all
        clear hbad g1
        go_wp2_with fail
        go_meet
        case rel => exact ⟨rfl, rfl⟩
    obtain ⟨rfl, hwx⟩ := hcut
    subst wc
    clear hbad
    go_wp2_with fail
    go_at_call 7
    refine (HA.out _ (Below.refl _ _)).mono ?_
    rintro e w1 ⟨rfl, hb⟩
    have HB := Lib.hid hb
    clear hb
    go_wp2_with fail
    go_ret
    exact ⟨rfl, HB.out⟩
  case pos =>
  obtain ⟨rfl, rfl, ha9, hb9, hn0, hn20⟩ := hbad
  obtain ⟨m, rfl⟩ : ∃ m : Nat, n = (m : Int) := ⟨n.toNat, by omega⟩
  obtain ⟨hpa, ha1, _⟩ := HPL.out rfl
  obtain ⟨hpb, hb1, _⟩ := HQL.out rfl
  have hla : a.data.toList.length = a.size := by simp
  have hlb : b.data.toList.length = b.size := by simp
  have hane : a.data.toList ≠ [] := by intro h; rw [h] at hla; simp at hla; omega
  have hbne : b.data.toList ≠ [] := by intro h; rw [h] at hlb; simp at hlb; omega
  have hm20 : m ≤ 20 := by omega
  have za : decide ((9 : Int) < (a.size : Int)) = false := decide_eq_false (by omega)
  have zb : decide ((9 : Int) < (b.size : Int)) = false := decide_eq_false (by omega)
  have zan : decide (9 < a.size) = false := decide_eq_false (by omega)
  have zbn : decide (9 < b.size) = false := decide_eq_false (by omega)
  have zn : decide ((m : Int) < 0) = false := decide_eq_false (by omega)
  have zm : decide ((20 : Int) < (m : Int)) = false := decide_eq_false (by omega)
  have KX := Lib.hid (parse_plain bkOf true hpa hane (by omega))
  have KY := Lib.hid (parse_plain bkOf true hpb hbne (by omega))
  have KZ := Lib.hid (parse_either bkOf hpa hpb hane hbne (by omega) (by omega))
  have KU := Lib.hid (parse_two bkOf hpa hpb hane hbne (by omega) (by omega) hm20)
  have KV := Lib.hid (parse_more bkOf hpa hpb hane hbne (by omega) (by omega))
  obtain ⟨X, hX⟩ : ∃ X, X = joinK 2 (a.data.toList.map oneN) := ⟨_, rfl⟩
  obtain ⟨Y, hY⟩ : ∃ X, X = joinK 2 (b.data.toList.map oneN) := ⟨_, rfl⟩
  have HTW := Lib.hid (show ∀ p q, twoN a.data.toList b.data.toList p q = .mk 2 noS 0 0 0 [.mk 4 noS (p.1 : Int) p.2 0 [.mk 5 noS 0 0 1 [X]], .mk 4 noS (q.1 : Int) q.2 0 [.mk 5 noS 0 0 2 [Y]]] from fun p q => by rw [hX, hY]; rfl)
  have FX := Lib.hid (show Few X by rw [hX]; exact few_row (by omega))
  have FY := Lib.hid (show Few Y by rw [hY]; exact few_row (by omega))
  rw [← hX] at KX KZ
  rw [← hY] at KY KZ
  have HD := Lib.hid fun (W : World) => digits_is m hm20 W
  have HSZ := Lib.hid (And.intro ha9 (And.intro hb9 (digS_size m)))
  clear hpa hpb ha1 hb1 hla hlb hane hbne hm20 hX hY ha9 hb9 hn0 hn20 HPL HQL
  go_upto_region 3 with fail
  go_cut [51] from 24 to 51 (fun t wx => t = .bool false ∧ wx = w)
  case first =>
    go_wp2_with fail
    go_meet
    case rel => exact ⟨rfl, rfl⟩
  obtain ⟨rfl, hwx⟩ := hcut
  subst wc
  clear za zb zan zbn zn zm
  have HB0 := Lib.hid (Below.refl w.heap.size w)
  go_wp2_with fail
  go_at_call 8
  refine (HPP.out _ X _ HB0.out KX.out).mono ?_
  rintro e w1 ⟨x, rfl, hx, hb1⟩
  have HNx := Lib.hid ((none_of hx).stays (bA w1 (.cells #[.int .i64 x.kind, .int .u64 (x.set 0), .int .u64 (x.set 1), .int .u64 (x.set 2), .int .u64 (x.set 3), .int .i64 x.lo, .int .i64 x.hi, .int .i64 x.num, .slice x.A x.n x.c] 30)))
  have HOx := Lib.hid (BoxN.new w1 x)
  have hst := (hb1).trans ((bA w1 (.cells #[.int .i64 x.kind, .int .u64 (x.set 0), .int .u64 (x.set 1), .int .u64 (x.set 2), .int .u64 (x.set 3), .int .i64 x.lo, .int .i64 x.hi, .int .i64 x.num, .slice x.A x.n x.c] 30)).mono hb1.size)
  have HB1 := Lib.hid (HB0.out.trans (hst.mono HB0.out.size))
  clear hst hx hb1
  rw [NV.v_eq]
  go_wp2_with fail
  go_at_call 8
  refine (HPP.out _ Y _ HB1.out KY.out).mono ?_
  rintro e w2 ⟨y, rfl, hy, hb2⟩
  have HNy := Lib.hid ((none_of hy).stays (bA w2 (.cells #[.int .i64 y.kind, .int .u64 (y.set 0), .int .u64 (y.set 1), .int .u64 (y.set 2), .int .u64 (y.set 3), .int .i64 y.lo, .int .i64 y.hi, .int .i64 y.num, .slice y.A y.n y.c] 30)))
  have HOy := Lib.hid (BoxN.new w2 y)
  have hst := (hb2).trans ((bA w2 (.cells #[.int .i64 y.kind, .int .u64 (y.set 0), .int .u64 (y.set 1), .int .u64 (y.set 2), .int .u64 (y.set 3), .int .i64 y.lo, .int .i64 y.hi, .int .i64 y.num, .slice y.A y.n y.c] 30)).mono hb2.size)
  have HNx := Lib.hid (HNx.out.stays hst)
  have HOx := Lib.hid (HOx.out.stays hst)
  have HB2 := Lib.hid (HB1.out.trans (hst.mono HB1.out.size))
  clear hst hy hb2
  rw [NV.v_eq]
  have hs1 := HSZ.out.1
  have hs2 := HSZ.out.2.1
  go_wp2_with fail
  clear hs1 hs2
  go_at_call 8
  refine (HPP.out _ (.mk 3 noS 0 0 0 [X, Y]) _ HB2.out (by rw [concat3]; exact KZ.out)).mono ?_
  rintro e w3 ⟨z, rfl, hz, hb3⟩
  have HNz := Lib.hid ((none_of hz).stays (bA w3 (.cells #[.int .i64 z.kind, .int .u64 (z.set 0), .int .u64 (z.set 1), .int .u64 (z.set 2), .int .u64 (z.set 3), .int .i64 z.lo, .int .i64 z.hi, .int .i64 z.num, .slice z.A z.n z.c] 30)))
  have HOz := Lib.hid (BoxN.new w3 z)
  have hst := (hb3).trans ((bA w3 (.cells #[.int .i64 z.kind, .int .u64 (z.set 0), .int .u64 (z.set 1), .int .u64 (z.set 2), .int .u64 (z.set 3), .int .i64 z.lo, .int .i64 z.hi, .int .i64 z.num, .slice z.A z.n z.c] 30)).mono hb3.size)
  have HNx := Lib.hid (HNx.out.stays hst)
  have HOx := Lib.hid (HOx.out.stays hst)
  have HNy := Lib.hid (HNy.out.stays hst)
  have HOy := Lib.hid (HOy.out.stays hst)
  have HB3 := Lib.hid (HB2.out.trans (hst.mono HB2.out.size))
  clear hst hz hb3
  rw [NV.v_eq]
  go_wp2_with fail
  go_at_call 13
  refine (HD.out _).mono ?_
  rintro e w0 ⟨rfl, hw0⟩
  subst w0
  have hs1 := HSZ.out.1
  have hs2 := HSZ.out.2.1
  have hs3 := HSZ.out.2.2
  go_wp2_with fail
  clear hs1 hs2
  clear hs3
  go_at_call 8
  refine (HPP.out _ (.mk 2 noS 0 0 0 [.mk 4 noS ((0 : Nat) : Int) (-1) 0 [.mk 5 noS 0 0 1 [X]], .mk 4 noS (m : Int) (m : Int) 0 [.mk 5 noS 0 0 2 [Y]]]) _ HB3.out (by rw [← HTW.out (0, -1) (m, (m : Int)), ← KU.out]; congr 1)).mono ?_
  rintro e w4 ⟨u, rfl, hu, hb4⟩
  have HNu := Lib.hid ((none_of hu).stays (bA w4 (.cells #[.int .i64 u.kind, .int .u64 (u.set 0), .int .u64 (u.set 1), .int .u64 (u.set 2), .int .u64 (u.set 3), .int .i64 u.lo, .int .i64 u.hi, .int .i64 u.num, .slice u.A u.n u.c] 30)))
  have HOu := Lib.hid (BoxN.new w4 u)
  have hst := (hb4).trans ((bA w4 (.cells #[.int .i64 u.kind, .int .u64 (u.set 0), .int .u64 (u.set 1), .int .u64 (u.set 2), .int .u64 (u.set 3), .int .i64 u.lo, .int .i64 u.hi, .int .i64 u.num, .slice u.A u.n u.c] 30)).mono hb4.size)
  have HNx := Lib.hid (HNx.out.stays hst)
  have HOx := Lib.hid (HOx.out.stays hst)
  have HNy := Lib.hid (HNy.out.stays hst)
  have HOy := Lib.hid (HOy.out.stays hst)
  have HNz := Lib.hid (HNz.out.stays hst)
  have HOz := Lib.hid (HOz.out.stays hst)
  have HB4 := Lib.hid (HB3.out.trans (hst.mono HB3.out.size))
  clear hst hu hb4
  rw [NV.v_eq]
  have hs1 := HSZ.out.1
  have hs2 := HSZ.out.2.1
  go_wp2_with fail
  clear hs1 hs2
  go_at_call 8
  refine (HPP.out _ (.mk 2 noS 0 0 0 [.mk 4 noS ((1 : Nat) : Int) (-1) 0 [.mk 5 noS 0 0 1 [X]], .mk 4 noS ((0 : Nat) : Int) 1 0 [.mk 5 noS 0 0 2 [Y]]]) _ HB4.out (by rw [← HTW.out (1, -1) (0, 1), ← KV.out]; congr 1)).mono ?_
  rintro e w5 ⟨v, rfl, hv, hb5⟩
  have HNv := Lib.hid ((none_of hv).stays (bA w5 (.cells #[.int .i64 v.kind, .int .u64 (v.set 0), .int .u64 (v.set 1), .int .u64 (v.set 2), .int .u64 (v.set 3), .int .i64 v.lo, .int .i64 v.hi, .int .i64 v.num, .slice v.A v.n v.c] 30)))
  have HOv := Lib.hid (BoxN.new w5 v)
  have hst := (hb5).trans ((bA w5 (.cells #[.int .i64 v.kind, .int .u64 (v.set 0), .int .u64 (v.set 1), .int .u64 (v.set 2), .int .u64 (v.set 3), .int .i64 v.lo, .int .i64 v.hi, .int .i64 v.num, .slice v.A v.n v.c] 30)).mono hb5.size)
  have HNx := Lib.hid (HNx.out.stays hst)
  have HOx := Lib.hid (HOx.out.stays hst)
  have HNy := Lib.hid (HNy.out.stays hst)
  have HOy := Lib.hid (HOy.out.stays hst)
  have HNz := Lib.hid (HNz.out.stays hst)
  have HOz := Lib.hid (HOz.out.stays hst)
  have HNu := Lib.hid (HNu.out.stays hst)
  have HOu := Lib.hid (HOu.out.stays hst)
  have HB5 := Lib.hid (HB4.out.trans (hst.mono HB4.out.size))
  clear hst hv hb5
  rw [NV.v_eq]
  go_upto_region 10 with fail
  obtain ⟨W5, hW5⟩ : ∃ W, W = w5.alloc (.cells #[.int .i64 v.kind, .int .u64 (v.set 0), .int .u64 (v.set 1), .int .u64 (v.set 2), .int .u64 (v.set 3), .int .i64 v.lo, .int .i64 v.hi, .int .i64 v.num, .slice v.A v.n v.c] 30) := ⟨_, rfl⟩
  rw [← hW5] at HNx HNy HNz HNu HNv HOx HOy HOz HOu HOv HB5
  rw [← hW5]
  clear hW5
  have lx := HOx.out.lt
  have ly := HOy.out.lt
  obtain ⟨⟨x0, x1, x2, x3, x4, x5, x6, x7, x8⟩, _⟩ := box9 HOx.out
  obtain ⟨⟨y0, y1, y2, y3, y4, y5, y6, y7, y8⟩, _⟩ := box9 HOy.out
  go_upto_region 12 with fail
  clear lx ly x0 x1 x2 x3 x4 x5 x6 x7 x8 y0 y1 y2 y3 y4 y5 y6 y7 y8
  obtain ⟨s, hs⟩ : ∃ s, s = W5.heap.size := ⟨_, rfl⟩
  obtain ⟨W6, hW6⟩ : ∃ W, W = (((W5.alloc (.cells #[.int .i64 x.kind, .int .u64 (x.set 0), .int .u64 (x.set 1), .int .u64 (x.set 2), .int .u64 (x.set 3), .int .i64 x.lo, .int .i64 x.hi, .int .i64 x.num, .slice x.A x.n x.c] 30)).alloc (.cells #[.int .i64 5, .int .u64 0, .int .u64 0, .int .u64 0, .int .u64 0, .int .i64 0, .int .i64 0, .int .i64 1, .slice (some ⟨W5.heap.size, 0, none⟩) 1 1] 30)).alloc (.cells #[.int .i64 y.kind, .int .u64 (y.set 0), .int .u64 (y.set 1), .int .u64 (y.set 2), .int .u64 (y.set 3), .int .i64 y.lo, .int .i64 y.hi, .int .i64 y.num, .slice y.A y.n y.c] 30)).alloc (.cells #[.int .i64 5, .int .u64 0, .int .u64 0, .int .u64 0, .int .u64 0, .int .i64 0, .int .i64 0, .int .i64 2, .slice (some ⟨(W5.heap.size + 2), 0, none⟩) 1 1] 30) := ⟨_, rfl⟩
  have hb56 : Below W5.heap.size W5 W6 := by rw [hW6]; exact ((((Below.refl _ W5).alloc (Nat.le_refl _) _).alloc (by simp) _).alloc (by simp; omega) _).alloc (by simp; omega) _
  have hk19 : W6.heap[s]? = some (.cells #[.int .i64 x.kind, .int .u64 (x.set 0), .int .u64 (x.set 1), .int .u64 (x.set 2), .int .u64 (x.set 3), .int .i64 x.lo, .int .i64 x.hi, .int .i64 x.num, .slice x.A x.n x.c] 30) := by rw [hW6, hs]; exact old_obj (old_obj (old_obj (new_obj W5 _) _) _) _
  have ho19 : BoxN W6 (s + 1) (overN 5 0 0 1 s 1) := by rw [hW6, hs]; exact old_obj (old_obj (by have := new_obj (W5.alloc (.cells #[.int .i64 x.kind, .int .u64 (x.set 0), .int .u64 (x.set 1), .int .u64 (x.set 2), .int .u64 (x.set 3), .int .i64 x.lo, .int .i64 x.hi, .int .i64 x.num, .slice x.A x.n x.c] 30)) (.cells #[.int .i64 5, .int .u64 0, .int .u64 0, .int .u64 0, .int .u64 0, .int .i64 0, .int .i64 0, .int .i64 1, .slice (some ⟨W5.heap.size, 0, none⟩) 1 1] 30); rw [World.size_alloc] at this; exact this) _) _
  have hk20 : W6.heap[s + 2]? = some (.cells #[.int .i64 y.kind, .int .u64 (y.set 0), .int .u64 (y.set 1), .int .u64 (y.set 2), .int .u64 (y.set 3), .int .i64 y.lo, .int .i64 y.hi, .int .i64 y.num, .slice y.A y.n y.c] 30) := by rw [hW6, hs]; exact old_obj (by have := new_obj ((W5.alloc (.cells #[.int .i64 x.kind, .int .u64 (x.set 0), .int .u64 (x.set 1), .int .u64 (x.set 2), .int .u64 (x.set 3), .int .i64 x.lo, .int .i64 x.hi, .int .i64 x.num, .slice x.A x.n x.c] 30)).alloc (.cells #[.int .i64 5, .int .u64 0, .int .u64 0, .int .u64 0, .int .u64 0, .int .i64 0, .int .i64 0, .int .i64 1, .slice (some ⟨W5.heap.size, 0, none⟩) 1 1] 30)) (.cells #[.int .i64 y.kind, .int .u64 (y.set 0), .int .u64 (y.set 1), .int .u64 (y.set 2), .int .u64 (y.set 3), .int .i64 y.lo, .int .i64 y.hi, .int .i64 y.num, .slice y.A y.n y.c] 30); rw [World.size_alloc, World.size_alloc] at this; exact this) _
  have ho20 : BoxN W6 (s + 3) (overN 5 0 0 2 (s + 2) 1) := by rw [hW6, hs]; have := new_obj (((W5.alloc (.cells #[.int .i64 x.kind, .int .u64 (x.set 0), .int .u64 (x.set 1), .int .u64 (x.set 2), .int .u64 (x.set 3), .int .i64 x.lo, .int .i64 x.hi, .int .i64 x.num, .slice x.A x.n x.c] 30)).alloc (.cells #[.int .i64 5, .int .u64 0, .int .u64 0, .int .u64 0, .int .u64 0, .int .i64 0, .int .i64 0, .int .i64 1, .slice (some ⟨W5.heap.size, 0, none⟩) 1 1] 30)).alloc (.cells #[.int .i64 y.kind, .int .u64 (y.set 0), .int .u64 (y.set 1), .int .u64 (y.set 2), .int .u64 (y.set 3), .int .i64 y.lo, .int .i64 y.hi, .int .i64 y.num, .slice y.A y.n y.c] 30)) (.cells #[.int .i64 5, .int .u64 0, .int .u64 0, .int .u64 0, .int .u64 0, .int .i64 0, .int .i64 0, .int .i64 2, .slice (some ⟨(W5.heap.size + 2), 0, none⟩) 1 1] 30); rw [World.size_alloc, World.size_alloc, World.size_alloc] at this; exact this
  rw [← hs]
  rw [hs]
  rw [← hW6]
  rw [← hs]
  clear hW6
  have HNx := Lib.hid (HNx.out.stays hb56)
  have HOx := Lib.hid (HOx.out.stays hb56)
  have HNy := Lib.hid (HNy.out.stays hb56)
  have HOy := Lib.hid (HOy.out.stays hb56)
  have HNz := Lib.hid (HNz.out.stays hb56)
  have HOz := Lib.hid (HOz.out.stays hb56)
  have HNu := Lib.hid (HNu.out.stays hb56)
  have HOu := Lib.hid (HOu.out.stays hb56)
  have HNv := Lib.hid (HNv.out.stays hb56)
  have HOv := Lib.hid (HOv.out.stays hb56)
  have HNp := Lib.hid (over_one HNx.out hk19 5 0 0 1)
  have HNq := Lib.hid (over_one HNy.out hk20 5 0 0 2)
  have HOp := Lib.hid ho19
  have HOq := Lib.hid ho20
  have HB6 := Lib.hid (HB5.out.trans (hb56.mono HB5.out.size))
  clear hb56 hk19 ho19 hk20 ho20 hs
  have HS := Lib.hid (show Calls Try.prog 12 #[.agg #[.int .i64 z.kind, .int .u64 (z.set 0), .int .u64 (z.set 1), .int .u64 (z.set 2), .int .u64 (z.set 3), .int .i64 z.lo, .int .i64 z.hi, .int .i64 z.num, .slice z.A z.n z.c], .agg #[.int .i64 3, .int .u64 0, .int .u64 0, .int .u64 0, .int .u64 0, .int .i64 0, .int .i64 0, .int .i64 0, .slice (some ⟨W6.heap.size, 0, none⟩) 2 2]] (W6.alloc (.cells #[.int .i64 x.kind, .int .u64 (x.set 0), .int .u64 (x.set 1), .int .u64 (x.set 2), .int .u64 (x.set 3), .int .i64 x.lo, .int .i64 x.hi, .int .i64 x.num, .slice x.A x.n x.c, .int .i64 y.kind, .int .u64 (y.set 0), .int .u64 (y.set 1), .int .u64 (y.set 2), .int .u64 (y.set 3), .int .i64 y.lo, .int .i64 y.hi, .int .i64 y.num, .slice y.A y.n y.c] 30)) (SameC (W6.alloc (.cells #[.int .i64 x.kind, .int .u64 (x.set 0), .int .u64 (x.set 1), .int .u64 (x.set 2), .int .u64 (x.set 3), .int .i64 x.lo, .int .i64 x.hi, .int .i64 x.num, .slice x.A x.n x.c, .int .i64 y.kind, .int .u64 (y.set 0), .int .u64 (y.set 1), .int .u64 (y.set 2), .int .u64 (y.set 3), .int .i64 y.lo, .int .i64 y.hi, .int .i64 y.num, .slice y.A y.n y.c] 30))) from same_is (few_two FX.out FY.out 3 noS 0 0 0) NoB NoB _ z (overN 3 0 0 0 W6.heap.size 2) (HNz.out.stays (bA W6 _)) (over_two (HNx.out.stays (bA W6 _)) (HNy.out.stays (bA W6 _)) (new_obj W6 _) 3 0 0 0))
  have lz := HOz.out.lt
  obtain ⟨⟨z0, z1, z2, z3, z4, z5, z6, z7, z8⟩, _⟩ := box9 HOz.out
  have lx := HOx.out.lt
  obtain ⟨⟨x0, x1, x2, x3, x4, x5, x6, x7, x8⟩, _⟩ := box9 HOx.out
  have ly := HOy.out.lt
  obtain ⟨⟨y0, y1, y2, y3, y4, y5, y6, y7, y8⟩, _⟩ := box9 HOy.out
  go_wp2_with fail
  go_at_call 12
  refine HS.out.mono ?_
  rintro e w7 ⟨rfl, hb7⟩
  clear lz z0 z1 z2 z3 z4 z5 z6 z7 z8 lx x0 x1 x2 x3 x4 x5 x6 x7 x8 ly y0 y1 y2 y3 y4 y5 y6 y7 y8
  have hst := (bA W6 (.cells #[.int .i64 x.kind, .int .u64 (x.set 0), .int .u64 (x.set 1), .int .u64 (x.set 2), .int .u64 (x.set 3), .int .i64 x.lo, .int .i64 x.hi, .int .i64 x.num, .slice x.A x.n x.c, .int .i64 y.kind, .int .u64 (y.set 0), .int .u64 (y.set 1), .int .u64 (y.set 2), .int .u64 (y.set 3), .int .i64 y.lo, .int .i64 y.hi, .int .i64 y.num, .slice y.A y.n y.c] 30)).trans (hb7.mono (by rw [World.size_alloc]; omega))
  have HNu := Lib.hid (HNu.out.stays hst)
  have HOu := Lib.hid (HOu.out.stays hst)
  have HNv := Lib.hid (HNv.out.stays hst)
  have HOv := Lib.hid (HOv.out.stays hst)
  have HNp := Lib.hid (HNp.out.stays hst)
  have HOp := Lib.hid (HOp.out.stays hst)
  have HNq := Lib.hid (HNq.out.stays hst)
  have HOq := Lib.hid (HOq.out.stays hst)
  have HB7 := Lib.hid (HB6.out.trans (hst.mono HB6.out.size))
  clear hst hb7 HS
  have hst : Below w7.heap.size w7 (((w7.alloc (.cells #[.int .i64 5, .int .u64 0, .int .u64 0, .int .u64 0, .int .u64 0, .int .i64 0, .int .i64 0, .int .i64 1, .slice (some ⟨s, 0, none⟩) 1 1] 30)).alloc (.cells #[.int .i64 5, .int .u64 0, .int .u64 0, .int .u64 0, .int .u64 0, .int .i64 0, .int .i64 0, .int .i64 2, .slice (some ⟨(s + 2), 0, none⟩) 1 1] 30)).alloc (.cells #[.int .i64 4, .int .u64 0, .int .u64 0, .int .u64 0, .int .u64 0, .int .i64 0, .int .i64 (-1), .int .i64 0, .slice (some ⟨w7.heap.size, 0, none⟩) 1 1, .int .i64 4, .int .u64 0, .int .u64 0, .int .u64 0, .int .u64 0, .int .i64 (m : Int), .int .i64 (m : Int), .int .i64 0, .slice (some ⟨(w7.heap.size + 1), 0, none⟩) 1 1] 30)) := (((Below.refl _ w7).alloc (Nat.le_refl _) _).alloc (by simp) _).alloc (by simp; omega) _
  have k1 : (((w7.alloc (.cells #[.int .i64 5, .int .u64 0, .int .u64 0, .int .u64 0, .int .u64 0, .int .i64 0, .int .i64 0, .int .i64 1, .slice (some ⟨s, 0, none⟩) 1 1] 30)).alloc (.cells #[.int .i64 5, .int .u64 0, .int .u64 0, .int .u64 0, .int .u64 0, .int .i64 0, .int .i64 0, .int .i64 2, .slice (some ⟨(s + 2), 0, none⟩) 1 1] 30)).alloc (.cells #[.int .i64 4, .int .u64 0, .int .u64 0, .int .u64 0, .int .u64 0, .int .i64 0, .int .i64 (-1), .int .i64 0, .slice (some ⟨w7.heap.size, 0, none⟩) 1 1, .int .i64 4, .int .u64 0, .int .u64 0, .int .u64 0, .int .u64 0, .int .i64 (m : Int), .int .i64 (m : Int), .int .i64 0, .slice (some ⟨(w7.heap.size + 1), 0, none⟩) 1 1] 30)).heap[w7.heap.size]? = some (.cells #[.int .i64 5, .int .u64 0, .int .u64 0, .int .u64 0, .int .u64 0, .int .i64 0, .int .i64 0, .int .i64 1, .slice (some ⟨s, 0, none⟩) 1 1] 30) := old_obj (old_obj (new_obj w7 _) _) _
  have k2 : (((w7.alloc (.cells #[.int .i64 5, .int .u64 0, .int .u64 0, .int .u64 0, .int .u64 0, .int .i64 0, .int .i64 0, .int .i64 1, .slice (some ⟨s, 0, none⟩) 1 1] 30)).alloc (.cells #[.int .i64 5, .int .u64 0, .int .u64 0, .int .u64 0, .int .u64 0, .int .i64 0, .int .i64 0, .int .i64 2, .slice (some ⟨(s + 2), 0, none⟩) 1 1] 30)).alloc (.cells #[.int .i64 4, .int .u64 0, .int .u64 0, .int .u64 0, .int .u64 0, .int .i64 0, .int .i64 (-1), .int .i64 0, .slice (some ⟨w7.heap.size, 0, none⟩) 1 1, .int .i64 4, .int .u64 0, .int .u64 0, .int .u64 0, .int .u64 0, .int .i64 (m : Int), .int .i64 (m : Int), .int .i64 0, .slice (some ⟨(w7.heap.size + 1), 0, none⟩) 1 1] 30)).heap[w7.heap.size + 1]? = some (.cells #[.int .i64 5, .int .u64 0, .int .u64 0, .int .u64 0, .int .u64 0, .int .i64 0, .int .i64 0, .int .i64 2, .slice (some ⟨(s + 2), 0, none⟩) 1 1] 30) := old_obj (by have := new_obj (w7.alloc (.cells #[.int .i64 5, .int .u64 0, .int .u64 0, .int .u64 0, .int .u64 0, .int .i64 0, .int .i64 0, .int .i64 1, .slice (some ⟨s, 0, none⟩) 1 1] 30)) (.cells #[.int .i64 5, .int .u64 0, .int .u64 0, .int .u64 0, .int .u64 0, .int .i64 0, .int .i64 0, .int .i64 2, .slice (some ⟨(s + 2), 0, none⟩) 1 1] 30); rw [World.size_alloc] at this; exact this) _
  have k3 : (((w7.alloc (.cells #[.int .i64 5, .int .u64 0, .int .u64 0, .int .u64 0, .int .u64 0, .int .i64 0, .int .i64 0, .int .i64 1, .slice (some ⟨s, 0, none⟩) 1 1] 30)).alloc (.cells #[.int .i64 5, .int .u64 0, .int .u64 0, .int .u64 0, .int .u64 0, .int .i64 0, .int .i64 0, .int .i64 2, .slice (some ⟨(s + 2), 0, none⟩) 1 1] 30)).alloc (.cells #[.int .i64 4, .int .u64 0, .int .u64 0, .int .u64 0, .int .u64 0, .int .i64 0, .int .i64 (-1), .int .i64 0, .slice (some ⟨w7.heap.size, 0, none⟩) 1 1, .int .i64 4, .int .u64 0, .int .u64 0, .int .u64 0, .int .u64 0, .int .i64 (m : Int), .int .i64 (m : Int), .int .i64 0, .slice (some ⟨(w7.heap.size + 1), 0, none⟩) 1 1] 30)).heap[w7.heap.size + 2]? = some (.cells #[.int .i64 4, .int .u64 0, .int .u64 0, .int .u64 0, .int .u64 0, .int .i64 0, .int .i64 (-1), .int .i64 0, .slice (some ⟨w7.heap.size, 0, none⟩) 1 1, .int .i64 4, .int .u64 0, .int .u64 0, .int .u64 0, .int .u64 0, .int .i64 (m : Int), .int .i64 (m : Int), .int .i64 0, .slice (some ⟨(w7.heap.size + 1), 0, none⟩) 1 1] 30) := by have := new_obj ((w7.alloc (.cells #[.int .i64 5, .int .u64 0, .int .u64 0, .int .u64 0, .int .u64 0, .int .i64 0, .int .i64 0, .int .i64 1, .slice (some ⟨s, 0, none⟩) 1 1] 30)).alloc (.cells #[.int .i64 5, .int .u64 0, .int .u64 0, .int .u64 0, .int .u64 0, .int .i64 0, .int .i64 0, .int .i64 2, .slice (some ⟨(s + 2), 0, none⟩) 1 1] 30)) (.cells #[.int .i64 4, .int .u64 0, .int .u64 0, .int .u64 0, .int .u64 0, .int .i64 0, .int .i64 (-1), .int .i64 0, .slice (some ⟨w7.heap.size, 0, none⟩) 1 1, .int .i64 4, .int .u64 0, .int .u64 0, .int .u64 0, .int .u64 0, .int .i64 (m : Int), .int .i64 (m : Int), .int .i64 0, .slice (some ⟨(w7.heap.size + 1), 0, none⟩) 1 1] 30); rw [World.size_alloc, World.size_alloc] at this; exact this
  have i1 := over_one (HNp.out.stays hst) k1 4 0 (-1) 0
  have i2 := over_one (HNq.out.stays hst) k2 4 (m : Int) (m : Int) 0
  have HS := Lib.hid (show Calls Try.prog 12 #[.agg #[.int .i64 u.kind, .int .u64 (u.set 0), .int .u64 (u.set 1), .int .u64 (u.set 2), .int .u64 (u.set 3), .int .i64 u.lo, .int .i64 u.hi, .int .i64 u.num, .slice u.A u.n u.c], .agg #[.int .i64 2, .int .u64 0, .int .u64 0, .int .u64 0, .int .u64 0, .int .i64 0, .int .i64 0, .int .i64 0, .slice (some ⟨(w7.heap.size + 2), 0, none⟩) 2 2]] (((w7.alloc (.cells #[.int .i64 5, .int .u64 0, .int .u64 0, .int .u64 0, .int .u64 0, .int .i64 0, .int .i64 0, .int .i64 1, .slice (some ⟨s, 0, none⟩) 1 1] 30)).alloc (.cells #[.int .i64 5, .int .u64 0, .int .u64 0, .int .u64 0, .int .u64 0, .int .i64 0, .int .i64 0, .int .i64 2, .slice (some ⟨(s + 2), 0, none⟩) 1 1] 30)).alloc (.cells #[.int .i64 4, .int .u64 0, .int .u64 0, .int .u64 0, .int .u64 0, .int .i64 0, .int .i64 (-1), .int .i64 0, .slice (some ⟨w7.heap.size, 0, none⟩) 1 1, .int .i64 4, .int .u64 0, .int .u64 0, .int .u64 0, .int .u64 0, .int .i64 (m : Int), .int .i64 (m : Int), .int .i64 0, .slice (some ⟨(w7.heap.size + 1), 0, none⟩) 1 1] 30)) (SameC (((w7.alloc (.cells #[.int .i64 5, .int .u64 0, .int .u64 0, .int .u64 0, .int .u64 0, .int .i64 0, .int .i64 0, .int .i64 1, .slice (some ⟨s, 0, none⟩) 1 1] 30)).alloc (.cells #[.int .i64 5, .int .u64 0, .int .u64 0, .int .u64 0, .int .u64 0, .int .i64 0, .int .i64 0, .int .i64 2, .slice (some ⟨(s + 2), 0, none⟩) 1 1] 30)).alloc (.cells #[.int .i64 4, .int .u64 0, .int .u64 0, .int .u64 0, .int .u64 0, .int .i64 0, .int .i64 (-1), .int .i64 0, .slice (some ⟨w7.heap.size, 0, none⟩) 1 1, .int .i64 4, .int .u64 0, .int .u64 0, .int .u64 0, .int .u64 0, .int .i64 (m : Int), .int .i64 (m : Int), .int .i64 0, .slice (some ⟨(w7.heap.size + 1), 0, none⟩) 1 1] 30))) from same_is (few_two (few_one (few_one FX.out 5 noS 0 0 1) 4 noS 0 (-1) 0) (few_one (few_one FY.out 5 noS 0 0 2) 4 noS (m : Int) (m : Int) 0) 2 noS 0 0 0) NoB NoB _ u (overN 2 0 0 0 (w7.heap.size + 2) 2) (HNu.out.stays hst) (over_two i1 i2 k3 2 0 0 0))
  have HST := Lib.hid hst
  clear hst k1 k2 k3 i1 i2
  have lu := HOu.out.lt
  obtain ⟨⟨u0, u1, u2, u3, u4, u5, u6, u7, u8⟩, _⟩ := box9 HOu.out
  have lp := HOp.out.lt
  obtain ⟨⟨p0, p1, p2, p3, p4, p5, p6, p7, p8⟩, _⟩ := box9 (show w7.heap[s + 1]? = some (.cells #[.int .i64 5, .int .u64 0, .int .u64 0, .int .u64 0, .int .u64 0, .int .i64 0, .int .i64 0, .int .i64 1, .slice (some ⟨s, 0, none⟩) 1 1] 30) from HOp.out)
  have lq := HOq.out.lt
  obtain ⟨⟨q0, q1, q2, q3, q4, q5, q6, q7, q8⟩, _⟩ := box9 (show w7.heap[s + 3]? = some (.cells #[.int .i64 5, .int .u64 0, .int .u64 0, .int .u64 0, .int .u64 0, .int .i64 0, .int .i64 0, .int .i64 2, .slice (some ⟨(s + 2), 0, none⟩) 1 1] 30) from HOq.out)
  go_wp2_with fail
  go_at_call 12
  refine HS.out.mono ?_
  rintro e w8 ⟨rfl, hbn⟩
  clear lu u0 u1 u2 u3 u4 u5 u6 u7 u8 lp p0 p1 p2 p3 p4 p5 p6 p7 p8 lq q0 q1 q2 q3 q4 q5 q6 q7 q8
  have hst := HST.out.trans (hbn.mono HST.out.size)
  have HNv := Lib.hid (HNv.out.stays hst)
  have HOv := Lib.hid (HOv.out.stays hst)
  have HNp := Lib.hid (HNp.out.stays hst)
  have HOp := Lib.hid (HOp.out.stays hst)
  have HNq := Lib.hid (HNq.out.stays hst)
  have HOq := Lib.hid (HOq.out.stays hst)
  have HB8 := Lib.hid (HB7.out.trans (hst.mono HB7.out.size))
  clear hst hbn HS HST
  have hst : Below w8.heap.size w8 (((w8.alloc (.cells #[.int .i64 5, .int .u64 0, .int .u64 0, .int .u64 0, .int .u64 0, .int .i64 0, .int .i64 0, .int .i64 1, .slice (some ⟨s, 0, none⟩) 1 1] 30)).alloc (.cells #[.int .i64 5, .int .u64 0, .int .u64 0, .int .u64 0, .int .u64 0, .int .i64 0, .int .i64 0, .int .i64 2, .slice (some ⟨(s + 2), 0, none⟩) 1 1] 30)).alloc (.cells #[.int .i64 4, .int .u64 0, .int .u64 0, .int .u64 0, .int .u64 0, .int .i64 1, .int .i64 (-1), .int .i64 0, .slice (some ⟨w8.heap.size, 0, none⟩) 1 1, .int .i64 4, .int .u64 0, .int .u64 0, .int .u64 0, .int .u64 0, .int .i64 0, .int .i64 1, .int .i64 0, .slice (some ⟨(w8.heap.size + 1), 0, none⟩) 1 1] 30)) := (((Below.refl _ w8).alloc (Nat.le_refl _) _).alloc (by simp) _).alloc (by simp; omega) _
  have k1 : (((w8.alloc (.cells #[.int .i64 5, .int .u64 0, .int .u64 0, .int .u64 0, .int .u64 0, .int .i64 0, .int .i64 0, .int .i64 1, .slice (some ⟨s, 0, none⟩) 1 1] 30)).alloc (.cells #[.int .i64 5, .int .u64 0, .int .u64 0, .int .u64 0, .int .u64 0, .int .i64 0, .int .i64 0, .int .i64 2, .slice (some ⟨(s + 2), 0, none⟩) 1 1] 30)).alloc (.cells #[.int .i64 4, .int .u64 0, .int .u64 0, .int .u64 0, .int .u64 0, .int .i64 1, .int .i64 (-1), .int .i64 0, .slice (some ⟨w8.heap.size, 0, none⟩) 1 1, .int .i64 4, .int .u64 0, .int .u64 0, .int .u64 0, .int .u64 0, .int .i64 0, .int .i64 1, .int .i64 0, .slice (some ⟨(w8.heap.size + 1), 0, none⟩) 1 1] 30)).heap[w8.heap.size]? = some (.cells #[.int .i64 5, .int .u64 0, .int .u64 0, .int .u64 0, .int .u64 0, .int .i64 0, .int .i64 0, .int .i64 1, .slice (some ⟨s, 0, none⟩) 1 1] 30) := old_obj (old_obj (new_obj w8 _) _) _
  have k2 : (((w8.alloc (.cells #[.int .i64 5, .int .u64 0, .int .u64 0, .int .u64 0, .int .u64 0, .int .i64 0, .int .i64 0, .int .i64 1, .slice (some ⟨s, 0, none⟩) 1 1] 30)).alloc (.cells #[.int .i64 5, .int .u64 0, .int .u64 0, .int .u64 0, .int .u64 0, .int .i64 0, .int .i64 0, .int .i64 2, .slice (some ⟨(s + 2), 0, none⟩) 1 1] 30)).alloc (.cells #[.int .i64 4, .int .u64 0, .int .u64 0, .int .u64 0, .int .u64 0, .int .i64 1, .int .i64 (-1), .int .i64 0, .slice (some ⟨w8.heap.size, 0, none⟩) 1 1, .int .i64 4, .int .u64 0, .int .u64 0, .int .u64 0, .int .u64 0, .int .i64 0, .int .i64 1, .int .i64 0, .slice (some ⟨(w8.heap.size + 1), 0, none⟩) 1 1] 30)).heap[w8.heap.size + 1]? = some (.cells #[.int .i64 5, .int .u64 0, .int .u64 0, .int .u64 0, .int .u64 0, .int .i64 0, .int .i64 0, .int .i64 2, .slice (some ⟨(s + 2), 0, none⟩) 1 1] 30) := old_obj (by have := new_obj (w8.alloc (.cells #[.int .i64 5, .int .u64 0, .int .u64 0, .int .u64 0, .int .u64 0, .int .i64 0, .int .i64 0, .int .i64 1, .slice (some ⟨s, 0, none⟩) 1 1] 30)) (.cells #[.int .i64 5, .int .u64 0, .int .u64 0, .int .u64 0, .int .u64 0, .int .i64 0, .int .i64 0, .int .i64 2, .slice (some ⟨(s + 2), 0, none⟩) 1 1] 30); rw [World.size_alloc] at this; exact this) _
  have k3 : (((w8.alloc (.cells #[.int .i64 5, .int .u64 0, .int .u64 0, .int .u64 0, .int .u64 0, .int .i64 0, .int .i64 0, .int .i64 1, .slice (some ⟨s, 0, none⟩) 1 1] 30)).alloc (.cells #[.int .i64 5, .int .u64 0, .int .u64 0, .int .u64 0, .int .u64 0, .int .i64 0, .int .i64 0, .int .i64 2, .slice (some ⟨(s + 2), 0, none⟩) 1 1] 30)).alloc (.cells #[.int .i64 4, .int .u64 0, .int .u64 0, .int .u64 0, .int .u64 0, .int .i64 1, .int .i64 (-1), .int .i64 0, .slice (some ⟨w8.heap.size, 0, none⟩) 1 1, .int .i64 4, .int .u64 0, .int .u64 0, .int .u64 0, .int .u64 0, .int .i64 0, .int .i64 1, .int .i64 0, .slice (some ⟨(w8.heap.size + 1), 0, none⟩) 1 1] 30)).heap[w8.heap.size + 2]? = some (.cells #[.int .i64 4, .int .u64 0, .int .u64 0, .int .u64 0, .int .u64 0, .int .i64 1, .int .i64 (-1), .int .i64 0, .slice (some ⟨w8.heap.size, 0, none⟩) 1 1, .int .i64 4, .int .u64 0, .int .u64 0, .int .u64 0, .int .u64 0, .int .i64 0, .int .i64 1, .int .i64 0, .slice (some ⟨(w8.heap.size + 1), 0, none⟩) 1 1] 30) := by have := new_obj ((w8.alloc (.cells #[.int .i64 5, .int .u64 0, .int .u64 0, .int .u64 0, .int .u64 0, .int .i64 0, .int .i64 0, .int .i64 1, .slice (some ⟨s, 0, none⟩) 1 1] 30)).alloc (.cells #[.int .i64 5, .int .u64 0, .int .u64 0, .int .u64 0, .int .u64 0, .int .i64 0, .int .i64 0, .int .i64 2, .slice (some ⟨(s + 2), 0, none⟩) 1 1] 30)) (.cells #[.int .i64 4, .int .u64 0, .int .u64 0, .int .u64 0, .int .u64 0, .int .i64 1, .int .i64 (-1), .int .i64 0, .slice (some ⟨w8.heap.size, 0, none⟩) 1 1, .int .i64 4, .int .u64 0, .int .u64 0, .int .u64 0, .int .u64 0, .int .i64 0, .int .i64 1, .int .i64 0, .slice (some ⟨(w8.heap.size + 1), 0, none⟩) 1 1] 30); rw [World.size_alloc, World.size_alloc] at this; exact this
  have i1 := over_one (HNp.out.stays hst) k1 4 1 (-1) 0
  have i2 := over_one (HNq.out.stays hst) k2 4 0 1 0
  have HS := Lib.hid (show Calls Try.prog 12 #[.agg #[.int .i64 v.kind, .int .u64 (v.set 0), .int .u64 (v.set 1), .int .u64 (v.set 2), .int .u64 (v.set 3), .int .i64 v.lo, .int .i64 v.hi, .int .i64 v.num, .slice v.A v.n v.c], .agg #[.int .i64 2, .int .u64 0, .int .u64 0, .int .u64 0, .int .u64 0, .int .i64 0, .int .i64 0, .int .i64 0, .slice (some ⟨(w8.heap.size + 2), 0, none⟩) 2 2]] (((w8.alloc (.cells #[.int .i64 5, .int .u64 0, .int .u64 0, .int .u64 0, .int .u64 0, .int .i64 0, .int .i64 0, .int .i64 1, .slice (some ⟨s, 0, none⟩) 1 1] 30)).alloc (.cells #[.int .i64 5, .int .u64 0, .int .u64 0, .int .u64 0, .int .u64 0, .int .i64 0, .int .i64 0, .int .i64 2, .slice (some ⟨(s + 2), 0, none⟩) 1 1] 30)).alloc (.cells #[.int .i64 4, .int .u64 0, .int .u64 0, .int .u64 0, .int .u64 0, .int .i64 1, .int .i64 (-1), .int .i64 0, .slice (some ⟨w8.heap.size, 0, none⟩) 1 1, .int .i64 4, .int .u64 0, .int .u64 0, .int .u64 0, .int .u64 0, .int .i64 0, .int .i64 1, .int .i64 0, .slice (some ⟨(w8.heap.size + 1), 0, none⟩) 1 1] 30)) (SameC (((w8.alloc (.cells #[.int .i64 5, .int .u64 0, .int .u64 0, .int .u64 0, .int .u64 0, .int .i64 0, .int .i64 0, .int .i64 1, .slice (some ⟨s, 0, none⟩) 1 1] 30)).alloc (.cells #[.int .i64 5, .int .u64 0, .int .u64 0, .int .u64 0, .int .u64 0, .int .i64 0, .int .i64 0, .int .i64 2, .slice (some ⟨(s + 2), 0, none⟩) 1 1] 30)).alloc (.cells #[.int .i64 4, .int .u64 0, .int .u64 0, .int .u64 0, .int .u64 0, .int .i64 1, .int .i64 (-1), .int .i64 0, .slice (some ⟨w8.heap.size, 0, none⟩) 1 1, .int .i64 4, .int .u64 0, .int .u64 0, .int .u64 0, .int .u64 0, .int .i64 0, .int .i64 1, .int .i64 0, .slice (some ⟨(w8.heap.size + 1), 0, none⟩) 1 1] 30))) from same_is (few_two (few_one (few_one FX.out 5 noS 0 0 1) 4 noS 1 (-1) 0) (few_one (few_one FY.out 5 noS 0 0 2) 4 noS 0 1 0) 2 noS 0 0 0) NoB NoB _ v (overN 2 0 0 0 (w8.heap.size + 2) 2) (HNv.out.stays hst) (over_two i1 i2 k3 2 0 0 0))
  have HST := Lib.hid hst
  clear hst k1 k2 k3 i1 i2
  have lv := HOv.out.lt
  obtain ⟨⟨v0, v1, v2, v3, v4, v5, v6, v7, v8⟩, _⟩ := box9 HOv.out
  have lp := HOp.out.lt
  obtain ⟨⟨p0, p1, p2, p3, p4, p5, p6, p7, p8⟩, _⟩ := box9 (show w8.heap[s + 1]? = some (.cells #[.int .i64 5, .int .u64 0, .int .u64 0, .int .u64 0, .int .u64 0, .int .i64 0, .int .i64 0, .int .i64 1, .slice (some ⟨s, 0, none⟩) 1 1] 30) from HOp.out)
  have lq := HOq.out.lt
  obtain ⟨⟨q0, q1, q2, q3, q4, q5, q6, q7, q8⟩, _⟩ := box9 (show w8.heap[s + 3]? = some (.cells #[.int .i64 5, .int .u64 0, .int .u64 0, .int .u64 0, .int .u64 0, .int .i64 0, .int .i64 0, .int .i64 2, .slice (some ⟨(s + 2), 0, none⟩) 1 1] 30) from HOq.out)
  go_wp2_with fail
  go_at_call 12
  refine HS.out.mono ?_
  rintro e w9 ⟨rfl, hbn⟩
  clear lv v0 v1 v2 v3 v4 v5 v6 v7 v8 lp p0 p1 p2 p3 p4 p5 p6 p7 p8 lq q0 q1 q2 q3 q4 q5 q6 q7 q8
  have hst := HST.out.trans (hbn.mono HST.out.size)
  have HB9 := Lib.hid (HB8.out.trans (hst.mono HB8.out.size))
  clear hst hbn HS HST
  go_wp2_with fail
  go_at_call 7
  refine (HA.out _ HB9.out).mono ?_
  rintro e w10 ⟨rfl, hb10⟩
  have HBF := Lib.hid (HB9.out.trans (hb10.mono HB9.out.size))
  clear hb10
  go_wp2_with fail
  go_ret
  exact ⟨rfl, HBF.out⟩
end Go.Proofs.Ytbehbbmhkkidfaa

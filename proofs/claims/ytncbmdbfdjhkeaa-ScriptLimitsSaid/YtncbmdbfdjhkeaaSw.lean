/-
  Package script: scripts that are too long, and scripts of many p. Conditions: as the law names them.
-/
import Derived.Test.YtncbmdbfdjhkeaaSv
namespace Go.Proofs.Ytncbmdbfdjhkeaa
open Go.RowKit Go.Deep Go.Sort

theorem blk_at {l : List UInt8} {n : Nat} {c : UInt8} (h : l[n]? = some c) (hc : isBl c = false) : blk (l.drop n) = 0 := by rw [drop_at h, blk_no hc]
theorem sk_stop {k : Nat} {l : List UInt8} {n : Nat} {c : UInt8} (h : l[n]? = some c) (hb : isBl c = false) (h1 : ([10, 59] : List UInt8).contains c = false) (h2 : ([35] : List UInt8).contains c = false) : skF (k + 1) l n = n := by
  unfold skF
  rw [blk_at h hb, Nat.add_zero, oneF_at h, oneF_at h, h1, h2]
  rfl
theorem sk_done {k : Nat} {l : List UInt8} {n : Nat} (h : l.length = n) : skF (k + 1) l n = n := by
  unfold skF
  rw [show blk (l.drop n) = 0 by rw [List.drop_eq_nil_of_le (by omega)]; rfl, Nat.add_zero, oneF_big (by omega), oneF_big (by omega)]
  rfl
theorem sk_semi {k : Nat} {l : List UInt8} {n : Nat} (h : l[n]? = some 59) : skF (k + 1) l n = skF k l (n + 1) := by
  show (if oneF [10, 59] l ((n + blk (l.drop n) : Nat) : Int) then _ else _) = _
  rw [blk_at h (by decide), Nat.add_zero, oneF_at h]
  rfl
theorem adX_none {ext : Bool} {l : List UInt8} {n : Nat} {c : UInt8} (h : l[n]? = some c) (hb : isBl c = false) (hd : isDg c = false) (h1 : ([36] : List UInt8).contains c = false) (h2 : ([47] : List UInt8).contains c = false) (h3 : ([92] : List UInt8).contains c = false) : adX ext l n = some (0, 0, none, n) := by
  have e : numF l (n : Int) = (0, (n : Int), false) := by
    unfold numF
    rw [if_pos (by omega), Int.toNat_natCast, drop_at h, dg_no hd, if_neg (by omega)]
  unfold adX
  rw [e, oneF_at h, oneF_at h, oneF_at h, h1, h2, h3, blk_at h hb]
  rfl
theorem adsX_none {ext : Bool} {l : List UInt8} {n : Nat} {c : UInt8} (h : l[n]? = some c) (hb : isBl c = false) (hd : isDg c = false) (h1 : ([36] : List UInt8).contains c = false) (h2 : ([47] : List UInt8).contains c = false) (h3 : ([92] : List UInt8).contains c = false) : adsX ext l n = some ((0, 0, none), (0, 0, none), n) := by
  unfold adsX
  rw [adX_none h hb hd h1 h2 h3]
  rfl
theorem ng_none {k : Nat} {l : List UInt8} {n : Nat} {c : UInt8} (h : l[n]? = some c) (hb : isBl c = false) (h1 : ([33] : List UInt8).contains c = false) : ngF (k + 1) l n false = (false, n) := by
  unfold ngF
  rw [blk_at h hb, Nat.add_zero, oneF_at h, h1]
  rfl
theorem end_semi {l : List UInt8} {n : Nat} (h : l[n]? = some 59) : endF l n = true := by
  unfold endF
  rw [oneF_at h]
  cases n == l.length <;> rfl
/-- "p;" again and again. -/
def pN : Nat → List UInt8
  | 0 => []
  | n + 1 => pN n ++ [112, 59]
theorem pN_len : ∀ n, (pN n).length = 2 * n
  | 0 => rfl
  | n + 1 => by
    unfold pN
    rw [List.length_append, pN_len n]
    rfl
theorem pN_at : ∀ (n k : Nat), k < n → (pN n)[2 * k]? = some 112 ∧ (pN n)[2 * k + 1]? = some 59
  | n + 1, k, h => by
    have hl := pN_len n
    unfold pN
    by_cases hk : k = n
    · subst hk
      rw [List.getElem?_append_right (by omega), List.getElem?_append_right (by omega), hl, Nat.sub_self, show 2 * k + 1 - 2 * k = 1 by omega]
      exact ⟨rfl, rfl⟩
    · rw [List.getElem?_append_left (by omega), List.getElem?_append_left (by omega)]
      exact pN_at n k (by omega)
theorem sk_pN {n k : Nat} (j : Nat) (hk : k ≤ n) : skF (j + 1) (pN n) (2 * k) = 2 * k := by
  by_cases h : k = n
  · exact sk_done (by rw [pN_len, h])
  · exact sk_stop (pN_at n k (by omega)).1 (by decide) (by decide) (by decide)
theorem scr_pN {ext : Bool} {n : Nat} : ∀ (j k p : Nat), j + k = min n 200 → skF ((pN n).length + 1) (pN n) p = 2 * k → ∃ ds : List Ds, Scr ext (pN n) k p ds (decide (n ≤ 200)) ∧ ds.length = j
  | 0, k, p, hj, hp => by
    have hl := pN_len n
    by_cases hn : n ≤ 200
    · rw [decide_eq_true hn]
      exact ⟨[], .done k p (by rw [hp]; omega) (by omega), rfl⟩
    · rw [decide_eq_false hn]
      exact ⟨[], .many k p (by rw [hp]; omega) (by omega), rfl⟩
  | j + 1, k, p, hj, hp => by
    have hl := pN_len n
    obtain ⟨h1, h2⟩ := pN_at n k (by omega)
    obtain ⟨ds, hs, hd⟩ := scr_pN (ext := ext) (n := n) j (k + 1) (2 * k + 1) (by omega) (by
      rw [sk_semi h2, hl, show 2 * n = (2 * n - 1) + 1 by omega]
      exact sk_pN (k := k + 1) _ (by omega))
    refine ⟨_ :: ds, .more k p (2 * k) (2 * k + 1) _ _ _ hp (by omega) (by omega) (by omega) (by omega) (.plain (2 * k) (0, 0, none) (0, 0, none) (2 * k) (2 * k) (2 * k + 1) false 112 112 (adsX_none h1 (by decide) (by decide) (by decide) (by decide) (by decide)) (ng_none h1 (by decide) (by decide)) h1 (by decide) (by decide) (.inr ⟨by decide, by rw [blk_at h2 (by decide)], end_semi h2⟩)) hs, by rw [List.length_cons, hd]⟩
theorem pN_parse {ext : Bool} {s : ByteArray} {n : Nat} {w : World} (hn : n ≤ 300) (hs : s.data.toList = pN n) (hM : MaxAt w) : ∃ ds : List Ds, ds.length = min n 200 ∧ Calls Try.prog 6 #[.string s, .bool ext] w (PaA ds (decide (n ≤ 200)) w) := by
  have hl := pN_len n
  have hz : s.data.toList.length = s.size := by simp
  obtain ⟨ds, h1, h2⟩ := scr_pN (ext := ext) (n := n) (min n 200) 0 0 (by omega) (sk_pN (k := 0) _ (Nat.zero_le _))
  rw [← hs] at h1
  exact ⟨ds, h2, parse_m (by rw [← hz, hs]; omega) hM h1⟩
set_option maxRecDepth 100000 in
set_option maxHeartbeats 16000000 in
theorem parse_long {s : ByteArray} {ext : Bool} (hs : 2000 < s.size) (w : World) : Calls Try.prog 6 #[.string s, .bool ext] w fun e w' => e = .returned (.tuple #[.slice none 0 0, .complex .f64 0 0, .int .i64 143]) ∧ w' = w := by
  have hz2 : decide ((2000 : Int) < (s.size : Int)) = true := decide_eq_true (by omega)
  have hz2n : decide (2000 < s.size) = true := decide_eq_true (by omega)
  go_enter Try.func6, Try.ntmps6
  go_wp2_with fail
  refine tk_wp_scope_again 0 (fun _ _ => False) (fun _ _ => 0) rfl ?_ (fun _ _ h => h.elim)
  intro hp
  clear hp
  go_wp2_with fail
  simp only [Exit.jump]
  refine bodyPost_ret (v := .tuple #[.slice none 0 0, .complex .f64 0 0, .int .i64 143]) (by simp [results, Try.results6, go_sem]) rfl ⟨rfl, rfl⟩
def strSz : Value → Nat
  | .string t => t.size
  | _ => 0
def red3 (n : Int) : Nat := (if n < 0 then -(n + 1) else n).toNat % 300
theorem i64_in {n : Int} (hn : (Lit.int .i64 n).wf = true) : -9223372036854775808 ≤ n ∧ n ≤ 9223372036854775807 := by
  have h : IntKind.i64.min ≤ n ∧ n ≤ IntKind.i64.max := by simpa [Lit.wf] using hn
  exact h
set_option maxRecDepth 100000 in
set_option maxHeartbeats 16000000 in
theorem limits_m {s : ByteArray} {n : Int} {w : World} (hn : (Lit.int .i64 n).wf = true) (hM : MaxAt w) : Calls Try.prog 3 #[.string s, .int .i64 n] w fun e w' => e = .returned (.bool true) ∧ Below w.heap.size w w' := by
  have HA := Lib.hid (fun W (hM : MaxAt W) => alive_m (w := W) hM)
  have HM := Lib.hid hM
  obtain ⟨b1, b2⟩ := i64_in hn
  clear hM hn
  by_cases h0 : s.size = 0
  · have e1 : ((s.size : Int) == 0) = true := by rw [h0]; rfl
    have e1n : (s.size == 0) = true := by rw [h0]; rfl
    clear h0 b1 b2
    go_enter Try.func3, Try.ntmps3
    go_wp2_with fail
    go_at_call 5
    with_reducible refine (HA.out _ HM.out).mono ?_
    rintro e w1 ⟨rfl, hb⟩
    go_wp2_with fail
    go_ret
    exact ⟨rfl, hb⟩
  have e1 : ((s.size : Int) == 0) = false := by rw [beq_eq_false_iff_ne]; omega
  have e1n : (s.size == 0) = false := by rw [beq_eq_false_iff_ne]; omega
  by_cases h4 : 40 < s.size
  · have e2 : decide ((40 : Int) < (s.size : Int)) = true := decide_eq_true (by omega)
    have e2n : decide (40 < s.size) = true := decide_eq_true h4
    clear h0 h4 b1 b2
    go_enter Try.func3, Try.ntmps3
    go_wp2_with fail
    go_at_call 5
    with_reducible refine (HA.out _ HM.out).mono ?_
    rintro e w1 ⟨rfl, hb⟩
    go_wp2_with fail
    go_ret
    exact ⟨rfl, hb⟩
  have e2 : decide ((40 : Int) < (s.size : Int)) = false := decide_eq_false (by omega)
  have e2n : decide (40 < s.size) = false := decide_eq_false h4
  have HSZ := Lib.hid (show 0 < s.size ∧ s.size ≤ 40 by omega)
  have HE := Lib.hid (show (red3 n : Int) = if n < 0 then -((n + 1).tmod 300) else n % 300 by
    unfold red3
    split
    · rw [Int.natCast_emod, Int.toNat_of_nonneg (by omega), ← Int.neg_tmod, Int.tmod_eq_emod_of_nonneg (by omega)]
      rfl
    · rw [Int.natCast_emod, Int.toNat_of_nonneg (by omega)]
      rfl)
  clear h0 h4
  by_cases h : n < 0
  · go_enter Try.func3, Try.ntmps3
    go_wp2_with fail
    rw [show -(n + 1).tmod 300 = ((red3 n : Nat) : Int) by have := HE.out; rw [if_pos h] at this; exact this.symm]
    clear HE h
    obtain ⟨k, hk, hk3⟩ : ∃ k, k = red3 n ∧ k < 300 := ⟨_, rfl, Nat.mod_lt _ (by decide)⟩
    rw [← hk]
    clear hk

    go_loop [5] (fun v => ∃ t : ByteArray, v = .string t ∧ Hid (t.size ≤ 2040)) (fun v => 2041 - strSz v)
    case atStart => exact ⟨s, rfl, Lib.hid (by have := HSZ.out; omega)⟩
    case round =>
      obtain ⟨t, rfl, ht⟩ := hrel
      by_cases hc : t.size ≤ 2000
      · have e3 : decide ((t.size : Int) ≤ 2000) = true := decide_eq_true (by omega)
        have e3n : decide (t.size ≤ 2000) = true := decide_eq_true hc
        have HC := Lib.hid hc
        have hcat : ¬ 9223372036854775807 < t.size + s.size := by have := HSZ.out; omega
        clear hc
        go_wp2_with fail
        refine ⟨⟨t ++ s, rfl, Lib.hid ?_⟩, ?_⟩
        · have := HC.out; have := HSZ.out; rw [ByteArray.size_append]; omega
        · have := HC.out; have := HSZ.out
          show 2041 - (t ++ s).size < 2041 - t.size
          rw [ByteArray.size_append]; omega
      · have e3 : decide ((t.size : Int) ≤ 2000) = false := decide_eq_false (by omega)
        have e3n : decide (t.size ≤ 2000) = false := decide_eq_false hc
        have HPL := Lib.hid (parse_long (s := t) (ext := false) (by omega) w)
        clear hc
        go_wp2_with fail
        go_at_call 6
        with_reducible refine HPL.out.mono ?_
        rintro e w1 ⟨rfl, rfl⟩
        go_wp2_with fail
        clear HPL e3 e3n ht
        go_loop [9, 10] (fun v i => ∃ (m : ByteArray) (j : Nat), v = .string m ∧ i = .int .i64 (j : Int) ∧ j ≤ k ∧ Hid (m.data.toList = pN j)) (fun _ i => k - (intOf i).toNat)
        case atStart => exact ⟨⟨#[]⟩, 0, rfl, rfl, Nat.zero_le _, Lib.hid rfl⟩
        case round =>
          obtain ⟨m, j, rfl, rfl, hj, hm⟩ := hrel
          have hms : m.size = 2 * j := by rw [← pN_len j, ← hm.out]; simp
          by_cases hc : j < k
          · have e3 : decide ((j : Int) < (k : Int)) = true := decide_eq_true (by omega)
            have e3n : decide (j < k) = true := decide_eq_true hc
            have hcat : ¬ 9223372036854775807 < m.size + 2 := by omega
            have HC := Lib.hid hc
            clear hc
            go_wp2_with fail
            refine ⟨⟨_, j + 1, rfl, rfl, HC.out, Lib.hid ?_⟩, ?_⟩
            · rw [ByteArray.data_append, Array.toList_append, hm.out]
              rfl
            · have := HC.out
              show k - (intOf (.int .i64 ((j + 1 : Nat) : Int))).toNat < k - (intOf (.int .i64 (j : Int))).toNat
              simp only [intOf, Int.toNat_natCast]
              omega
          · have e3 : decide ((j : Int) < (k : Int)) = false := decide_eq_false (by omega)
            have e3n : decide (j < k) = false := decide_eq_false hc
            obtain rfl : j = k := by omega
            obtain ⟨ds, hds, hpp⟩ := pN_parse (ext := false) (by omega) hm.out HM.out
            have HPP := Lib.hid hpp
            have HDS := Lib.hid hds
            clear hpp hc hds hms hj
            go_wp2_with fail
            go_at_call 6
            with_reducible refine HPP.out.mono ?_
            rintro e w2 ⟨hb, hpa⟩
            have HB := Lib.hid hb
            have HMB := Lib.hid (HM.out.below hb)
            rcases hpa with ⟨h, rfl⟩ | ⟨h, A, cp, cs, rfl, hraw, had⟩
            · have h := of_decide_eq_false h
              have e4 : decide ((200 : Int) < (j : Int)) = true := decide_eq_true (by omega)
              have e4n : decide (200 < j) = true := decide_eq_true (by omega)
              clear h hb
              go_wp2_with fail
              go_at_call 5
              with_reducible refine (HA.out _ HMB.out).mono ?_
              rintro e w3 ⟨rfl, hb3⟩
              go_wp2_with fail
              go_ret
              exact ⟨rfl, HB.out.trans (hb3.mono HB.out.size)⟩
            · have h := of_decide_eq_true h
              have hlen := had.length
              have e4 : decide ((200 : Int) < (j : Int)) = false := decide_eq_false (by omega)
              have e4n : decide (200 < j) = false := decide_eq_false (by omega)
              have e5 : cs.length = j := by have := HDS.out; omega
              have e6 : ((cs.length : Int) == (j : Int)) = true := by rw [e5]; simp
              have e6n : (cs.length == j) = true := by rw [e5]; simp
              clear h hb hlen had hraw e5
              go_wp2_with fail
              go_at_call 5
              with_reducible refine (HA.out _ HMB.out).mono ?_
              rintro e w3 ⟨rfl, hb3⟩
              go_wp2_with fail
              go_ret
              exact ⟨rfl, HB.out.trans (hb3.mono HB.out.size)⟩

  · have h' : 0 ≤ n := by omega
    go_enter Try.func3, Try.ntmps3
    go_wp2_with fail
    rw [show n % 300 = ((red3 n : Nat) : Int) by have := HE.out; rw [if_neg (by omega)] at this; exact this.symm]
    clear HE h'
    obtain ⟨k, hk, hk3⟩ : ∃ k, k = red3 n ∧ k < 300 := ⟨_, rfl, Nat.mod_lt _ (by decide)⟩
    rw [← hk]
    clear hk

    go_loop [5] (fun v => ∃ t : ByteArray, v = .string t ∧ Hid (t.size ≤ 2040)) (fun v => 2041 - strSz v)
    case atStart => exact ⟨s, rfl, Lib.hid (by have := HSZ.out; omega)⟩
    case round =>
      obtain ⟨t, rfl, ht⟩ := hrel
      by_cases hc : t.size ≤ 2000
      · have e3 : decide ((t.size : Int) ≤ 2000) = true := decide_eq_true (by omega)
        have e3n : decide (t.size ≤ 2000) = true := decide_eq_true hc
        have HC := Lib.hid hc
        have hcat : ¬ 9223372036854775807 < t.size + s.size := by have := HSZ.out; omega
        clear hc
        go_wp2_with fail
        refine ⟨⟨t ++ s, rfl, Lib.hid ?_⟩, ?_⟩
        · have := HC.out; have := HSZ.out; rw [ByteArray.size_append]; omega
        · have := HC.out; have := HSZ.out
          show 2041 - (t ++ s).size < 2041 - t.size
          rw [ByteArray.size_append]; omega
      · have e3 : decide ((t.size : Int) ≤ 2000) = false := decide_eq_false (by omega)
        have e3n : decide (t.size ≤ 2000) = false := decide_eq_false hc
        have HPL := Lib.hid (parse_long (s := t) (ext := false) (by omega) w)
        clear hc
        go_wp2_with fail
        go_at_call 6
        with_reducible refine HPL.out.mono ?_
        rintro e w1 ⟨rfl, rfl⟩
        go_wp2_with fail
        clear HPL e3 e3n ht
        go_loop [9, 10] (fun v i => ∃ (m : ByteArray) (j : Nat), v = .string m ∧ i = .int .i64 (j : Int) ∧ j ≤ k ∧ Hid (m.data.toList = pN j)) (fun _ i => k - (intOf i).toNat)
        case atStart => exact ⟨⟨#[]⟩, 0, rfl, rfl, Nat.zero_le _, Lib.hid rfl⟩
        case round =>
          obtain ⟨m, j, rfl, rfl, hj, hm⟩ := hrel
          have hms : m.size = 2 * j := by rw [← pN_len j, ← hm.out]; simp
          by_cases hc : j < k
          · have e3 : decide ((j : Int) < (k : Int)) = true := decide_eq_true (by omega)
            have e3n : decide (j < k) = true := decide_eq_true hc
            have hcat : ¬ 9223372036854775807 < m.size + 2 := by omega
            have HC := Lib.hid hc
            clear hc
            go_wp2_with fail
            refine ⟨⟨_, j + 1, rfl, rfl, HC.out, Lib.hid ?_⟩, ?_⟩
            · rw [ByteArray.data_append, Array.toList_append, hm.out]
              rfl
            · have := HC.out
              show k - (intOf (.int .i64 ((j + 1 : Nat) : Int))).toNat < k - (intOf (.int .i64 (j : Int))).toNat
              simp only [intOf, Int.toNat_natCast]
              omega
          · have e3 : decide ((j : Int) < (k : Int)) = false := decide_eq_false (by omega)
            have e3n : decide (j < k) = false := decide_eq_false hc
            obtain rfl : j = k := by omega
            obtain ⟨ds, hds, hpp⟩ := pN_parse (ext := false) (by omega) hm.out HM.out
            have HPP := Lib.hid hpp
            have HDS := Lib.hid hds
            clear hpp hc hds hms hj
            go_wp2_with fail
            go_at_call 6
            with_reducible refine HPP.out.mono ?_
            rintro e w2 ⟨hb, hpa⟩
            have HB := Lib.hid hb
            have HMB := Lib.hid (HM.out.below hb)
            rcases hpa with ⟨h, rfl⟩ | ⟨h, A, cp, cs, rfl, hraw, had⟩
            · have h := of_decide_eq_false h
              have e4 : decide ((200 : Int) < (j : Int)) = true := decide_eq_true (by omega)
              have e4n : decide (200 < j) = true := decide_eq_true (by omega)
              clear h hb
              go_wp2_with fail
              go_at_call 5
              with_reducible refine (HA.out _ HMB.out).mono ?_
              rintro e w3 ⟨rfl, hb3⟩
              go_wp2_with fail
              go_ret
              exact ⟨rfl, HB.out.trans (hb3.mono HB.out.size)⟩
            · have h := of_decide_eq_true h
              have hlen := had.length
              have e4 : decide ((200 : Int) < (j : Int)) = false := decide_eq_false (by omega)
              have e4n : decide (200 < j) = false := decide_eq_false (by omega)
              have e5 : cs.length = j := by have := HDS.out; omega
              have e6 : ((cs.length : Int) == (j : Int)) = true := by rw [e5]; simp
              have e6n : (cs.length == j) = true := by rw [e5]; simp
              clear h hb hlen had hraw e5
              go_wp2_with fail
              go_at_call 5
              with_reducible refine (HA.out _ HMB.out).mono ?_
              rintro e w3 ⟨rfl, hb3⟩
              go_wp2_with fail
              go_ret
              exact ⟨rfl, HB.out.trans (hb3.mono HB.out.size)⟩

end Go.Proofs.Ytncbmdbfdjhkeaa

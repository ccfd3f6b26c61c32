/-
  The walk of RecordRow: it returns true and touches nothing that was there. Conditions: the lists and the bytes lie in memory, and the bytes are fewer than 2^47.
-/
import Derived.Test.YthdenpdhckichaaOnly
namespace Go.Proofs.Ythdenpdhckichaa
open Go.RowKit Go.Deep

theorem same04_below (A B : Option Addr) (ls : List (List UInt8)) (c1 c2 k : Nat) (w : World) (hA : RowsAt w A ls) (hB : RowsAt w B ls) (hk : k = ls.length) (hm : k ≤ maxLen) :
    Calls Try.prog 17 #[.slice A k c1, .slice B k c2] w fun e w' => e = .returned (.bool true) ∧ Below w.heap.size w w' :=
  (same04_any A B ls c1 c2 k w hA hB hk hm).mono fun e w' ⟨he, N, hw⟩ => ⟨he, by rw [hw]; exact below_drewN _ _ _⟩

def RowRel (ls : List (List UInt8)) (q : Nat) (w : World) (v i : Value) (wr : World) : Prop :=
  ∃ j : Nat, i = .int .i64 (j : Int) ∧ j ≤ ls.length ∧ j ≤ 20 ∧ (j = 0 ∨ q ≤ 100) ∧ (∀ l ∈ ls.take j, RecOk l ∧ l.length ≤ 200) ∧ OwnV wr w.heap.size v (frames (ls.take j)) ∧ Below w.heap.size w wr

theorem frames_small : ∀ ls : List (List UInt8), (∀ l ∈ ls, RecOk l ∧ l.length ≤ 200) → (frames ls).length ≤ ls.length * 207
  | [], _ => by simp [frames]
  | l :: r, h => by
    have h1 := frames_small r (fun x hx => h x (by simp [hx]))
    have h2 := (h l (by simp)).2
    rw [frames_cons, List.length_append, length_frame, List.length_cons]
    omega
theorem take_zero (r : List UInt8) : takeE (0 :: r) ≠ 0 := by
  intro h
  have h1 := (hdrE_zero.1 (takeE_zero.1 h).1).2.1
  have h2 : at0 (0 :: r) 0 = 0 := rfl
  omega

set_option maxRecDepth 100000 in
set_option maxHeartbeats 4000000 in
theorem row_any (A0 B0 : Option Addr) (ls : List (List UInt8)) (rs : List UInt8) (cap cb : Nat) (w : World) (hR : RowsAt w A0 ls) (hB : BytesAt w B0 rs) (hk : ls.length ≤ maxLen) (hq : rs.length < 140737488355328) (hls : ∀ l ∈ ls, l.length ≤ maxLen) :
    Calls Try.prog 8 #[.slice A0 ls.length cap, .slice B0 rs.length cb] w fun e w' => e = .returned (.bool true) ∧ Below w.heap.size w w' := by
  have HR := Lib.hid hR
  have HB0 := Lib.hid hB
  have HLS := Lib.hid hls
  obtain ⟨k, ek⟩ : ∃ k, k = ls.length := ⟨_, rfl⟩
  obtain ⟨q, eq⟩ : ∃ q, q = rs.length := ⟨_, rfl⟩
  have EK := Lib.hid ek
  have EQ := Lib.hid eq
  rw [← ek] at hk ⊢
  rw [← eq] at hq ⊢
  unfold maxLen at hk
  have re := run_empty
  clear hR hB hls ek eq
  go_enter Try.func8, Try.ntmps8
  go_wp2_with fail
  go_loopw [5, 6] (fun v i wr => RowRel ls q w v i wr) (fun _ i _ => k - (intOf i).toNat)
  case atStart => exact ⟨0, rfl, Nat.zero_le _, by omega, .inl rfl, by simp, by simpa [frames] using OwnV.nil w w.heap.size, Below.refl _ _⟩
  case round =>
    obtain ⟨j, rfl, hj, hj20, hjq, hok, hown, hb⟩ := hrel
    rw [← EK.out] at hj
    have HJQ := Lib.hid hjq
    have HOK := Lib.hid hok
    have HO := Lib.hid hown
    have HB := Lib.hid hb
    clear hjq hok hown hb
    by_cases hjk : j < k
    · obtain ⟨l, hl⟩ : ∃ l, ls[j]? = some l := ⟨ls[j]'(by have := EK.out; omega), List.getElem?_eq_getElem _⟩
      obtain ⟨g1, o1, B1, d1, rfl, hc1, hb1⟩ := (HR.out.below HB.out) j l hl
      by_cases h20 : j = 20
      · have t0 : ((j : Int) == 20) = true := by simp; omega
        clear hl hb1 h20 hj20
        go_wp2_with fail
        go_at_call 9
        (with_reducible refine (alive_any _).mono ?_)
        rintro e W7 ⟨rfl, hb7⟩
        have HB7 := Lib.hid (HB.out.trans (hb7.mono HB.out.size))
        clear hb7
        go_wp2_with fail
        go_ret
        exact ⟨rfl, HB7.out⟩
      · have t0 : ((j : Int) == 20) = false := by simp; omega
        obtain ⟨n, en⟩ : ∃ n, n = l.length := ⟨_, rfl⟩
        have EN := Lib.hid en
        have hnm := HLS.out l (List.mem_of_getElem? hl)
        rw [← en] at hc1 hnm
        unfold maxLen at hnm
        by_cases h200 : 200 < n
        · have t1 : (200 : Int) < (n : Int) := by omega
          clear hl hb1 h20 en h200
          go_wp2_with fail
          go_at_call 9
          (with_reducible refine (alive_any _).mono ?_)
          rintro e W7 ⟨rfl, hb7⟩
          have HB7 := Lib.hid (HB.out.trans (hb7.mono HB.out.size))
          clear hb7
          go_wp2_with fail
          go_ret
          exact ⟨rfl, HB7.out⟩
        · have t1 : ¬ (200 : Int) < (n : Int) := by omega
          by_cases h100 : 100 < q
          · have t2 : (100 : Int) < (q : Int) := by omega
            clear hl hb1 h20 en h200 h100
            go_wp2_with fail
            go_at_call 9
            (with_reducible refine (alive_any _).mono ?_)
            rintro e W7 ⟨rfl, hb7⟩
            have HB7 := Lib.hid (HB.out.trans (hb7.mono HB.out.size))
            clear hb7
            go_wp2_with fail
            go_ret
            exact ⟨rfl, HB7.out⟩
          · have t2 : ¬ (100 : Int) < (q : Int) := by omega
            by_cases h0 : n = 0
            · have hw := wrap_no B1 l d1 wr (by rw [← en, h0]; unfold maxLen; omega) (fun h => by have := h.1; omega)
              subst h0
              rw [← en] at hw
              have HW := Lib.hid hw
              clear hl hb1 h20 en h200 h100 hw
              go_wp2_with fail
              go_at_call 10
              (with_reducible refine (HW.out).mono ?_)
              rintro e w' ⟨rfl, rfl⟩
              go_wp2_with fail
              go_at_call 9
              (with_reducible refine (alive_any _).mono ?_)
              rintro e W7 ⟨rfl, hb7⟩
              have hc7 := (hb7.cell (p := ⟨g1, o1 + j, none⟩) (World.block_lt_of_cell? _ _ hc1)).trans hc1
              have HB7 := Lib.hid (HB.out.trans (hb7.mono HB.out.size))
              clear hb7 hc1
              go_wp2_with fail
              go_ret
              exact ⟨rfl, HB7.out⟩
            · have hrec : RecOk l := ⟨by omega, by omega⟩
              have hw := wrap_ok B1 l d1 wr hb1 hrec
              have hnx := frames_take_succ ls j l hl
              rw [← en] at hw
              have hok2 : ∀ x ∈ ls.take (j + 1), RecOk x ∧ x.length ≤ 200 := fun x hx => by
                rw [List.take_add_one, hl] at hx
                rw [List.mem_append] at hx
                rcases hx with hx | hx
                · exact HOK.out x hx
                · simp at hx
                  subst hx
                  exact ⟨hrec, by omega⟩
              have hbd : (frames (ls.take j)).length + (frame l).length ≤ 1099511627776 := by
                have h1 := frames_small _ HOK.out
                have h2 : (ls.take j).length ≤ j := List.length_take_le _ _
                rw [length_frame]
                omega
              have HW := Lib.hid hw
              have HNX := Lib.hid hnx
              have HBD := Lib.hid hbd
              have HOK2 := Lib.hid hok2
              have H0 : Hid (0 < (frame l).length) := Lib.hid (by rw [length_frame]; omega)
              have HJ20 : Hid (j + 1 ≤ 20) := Lib.hid (by omega)
              have HQ1 : Hid (q ≤ 100) := Lib.hid (by omega)
              clear hl hb1 h20 en h200 h100 h0 hw hnx hbd hok2 hrec
              go_wp2_with fail
              go_at_call 10
              (with_reducible refine (HW.out).mono ?_)
              rintro e W4 ⟨v, rfl, g4, n4, c4, rfl, hn4, hown4, hb4⟩
              have HO4 := Lib.hid (HO.out.below hb4)
              have HB4 := Lib.hid (HB.out.trans (hb4.mono HB.out.size))
              have HN4 := Lib.hid hn4
              have HF4 := Lib.hid hown4.bytes
              clear hn4 hown4 hb4 hc1
              go_wp2_with ((refine wpList_append_ownv 64 HO4.out HF4.out HN4.out H0.out rfl rfl HBD.out HB4.out.size ?_))
              intro v5 W5 hown5 hgr5 hge5
              have hb5 : Below w.heap.size w W5 := HB4.out.grown hgr5 HB4.out.size hge5
              rw [← HNX.out] at hown5
              have HO5 := Lib.hid hown5
              have HB5 := Lib.hid hb5
              clear hown5 hgr5 hge5 hb5
              go_wp2_with fail
              go_roundw
              case rel => exact ⟨j + 1, by go_num, by have := EK.out; omega, HJ20.out, .inr HQ1.out, HOK2.out, HO5.out, HB5.out⟩
              case measure => simp [intOf]; omega
    · have hjl : j = ls.length := by have := EK.out; omega
      have hown := HO.out
      have hok := HOK.out
      have hjq := HJQ.out
      rw [hjl, List.take_length] at hown hok
      obtain ⟨A5, c5, rfl, hb5, hc5, hc5m⟩ := hown.bytes
      obtain ⟨m, em⟩ : ∃ m, m = (frames ls).length := ⟨_, rfl⟩
      have hm9 : m ≤ 4140 := by
        have := frames_small ls hok
        omega
      have hq0 : m = 0 ∨ q ≤ 100 := by
        rcases hjq with h | h
        · left
          have : ls = [] := List.eq_nil_of_length_eq_zero (by omega)
          rw [em, this]
          rfl
        · exact .inr h
      have hokr : ∀ l ∈ ls, RecOk l := fun l hl => (hok l hl).1
      have his1 : IsScan (frames ls) ls m := by
        have := IsScan.frames_more ls [] hokr (by rw [takeE_nil]; decide)
        rw [List.append_nil, ← em] at this
        exact this
      have his2 : IsScan (frames ls ++ (0 :: rs)) ls m := by
        have := IsScan.frames_more ls (0 :: rs) hokr (take_zero rs)
        rw [← em] at this
        exact this
      have hct2 : ∀ ls' n', Scanning (frames ls ++ (0 :: rs)) ls' n' → ls'.length + 1 ≤ 1099511627776 := by
        rcases hq0 with h | h
        · have : frames ls = [] := List.eq_nil_of_length_eq_zero (by omega)
          rw [this]
          exact scan_none (take_zero rs)
        · refine scan_count ?_
          rw [List.length_append, List.length_cons, ← EQ.out, ← em]
          omega
      have hm47 : m + (q + 1) ≤ 140737488355328 := by omega
      have hsc := (scan_any A5 (frames ls) c5 wr hb5 hc5 hc5m (by omega) (scan_count (by omega))).mono fun e w' h => scanAny_of h
      rw [← em] at hsc hc5 ⊢
      have HSC := Lib.hid hsc
      have HA5 := Lib.hid hb5
      have HC5 := Lib.hid hc5
      have HIS1 := Lib.hid his1
      have HIS2 := Lib.hid his2
      have HCT2 := Lib.hid hct2
      have HEM := Lib.hid em
      have HRW := Lib.hid (HR.out.below HB.out)
      have HBW := Lib.hid (HB0.out.below HB.out)
      have hkm : k ≤ 9223372036854775807 := by omega
      clear hsc hb5 hc5 hc5m his1 his2 hct2 em hown hok hjq hjl hokr hq0 HO
      go_wp2_with fail
      go_at_call 15
      (with_reducible refine (HSC.out).mono ?_)
      rintro e W3 ⟨A3, k3, c3, ls3, n3, rfl, hk3, hs3, hr3, hb3⟩
      obtain ⟨els, en3⟩ := HIS1.out.unique hs3
      subst els en3
      have e3k : k3 = k := by rw [hk3, EK.out]
      subst e3k
      have hb3' : Below w.heap.size w W3 := HB.out.trans (hb3.mono HB.out.size)
      have HS3 := Lib.hid (same04_below A3 A0 ls c3 cap k3 W3 hr3 (HRW.out.below hb3) hk3 (by unfold maxLen; omega))
      have HBw3 := Lib.hid hb3'
      have HB3 := Lib.hid hb3
      clear hk3 hs3 hr3 hb3 hb3'
      go_wp2_with fail
      go_at_call 17
      (with_reducible refine (HS3.out).mono ?_)
      rintro e W4 ⟨rfl, hb4⟩
      have hrw4 : Below wr.heap.size wr W4 := HB3.out.trans (hb4.mono HB3.out.size)
      have HBw4 := Lib.hid (HBw3.out.trans (hb4.mono HBw3.out.size))
      have HRW4 := Lib.hid hrw4
      clear hb4 hrw4
      go_wp2_with ((refine wpList_append_bytes (k := q) 75 (Own.lit W4 _ [0] 1 _ rfl rfl rfl (by decide)) ((HBW.out.below HRW4.out).alloc _) EQ.out rfl rfl ?_ (by simp) ?_))
      · omega
      intro g5 c5' W5 hown5 hgr5 _
      have hb5 : Below W4.heap.size W4 W5 := ((Below.refl _ W4).alloc (Nat.le_refl _) _).grown hgr5 (by simp) (fun k hk => by injection hk with hk; omega)
      have HO5 := Lib.hid hown5
      have HB5 := Lib.hid hb5
      have HRW5 := Lib.hid (HRW4.out.trans (hb5.mono HRW4.out.size))
      clear hown5 hgr5 hb5
      go_wp2_with ((refine wpList_append_bytes (k := m) 78 (Own.start' _ _ rfl) ((HA5.out.below HRW5.out).alloc _) HEM.out rfl rfl ?_ (by simp) ?_))
      · omega
      intro g6 c6 W6 hown6 hgr6 _
      have hb6 : Below W5.heap.size W5 W6 := ((Below.refl _ W5).alloc (Nat.le_refl _) _).grown hgr6 (by simp) (fun k hk => by injection hk with hk; omega)
      simp only [Nat.zero_add, List.nil_append] at hown6 ⊢
      have HO6 := Lib.hid hown6
      have HB6 := Lib.hid hb6
      have HRW6 := Lib.hid (HRW5.out.trans (hb6.mono HRW5.out.size))
      have HQ5 : Hid (1 + q = ([0] ++ rs).length) := Lib.hid (by rw [List.length_append, ← EQ.out]; rfl)
      clear hown6 hgr6 hb6
      go_wp2_with ((refine wpList_append_bytes (k := 1 + q) 81 HO6.out (HO5.out.bytes.below HB6.out) HQ5.out rfl rfl ?_ HB6.out.size ?_))
      · omega
      intro g7 c7 W7 hown7 hgr7 _
      have hb7 : Below W5.heap.size W5 W7 := HB6.out.grown hgr7 HB6.out.size (fun k hk => by injection hk with hk; have := HO6.out.ge; omega)
      have hrw7 : Below wr.heap.size wr W7 := HRW5.out.trans (hb7.mono HRW5.out.size)
      have hl7 : (frames ls ++ ([0] ++ rs)).length = m + (1 + q) := by rw [List.length_append, ← HQ5.out, ← HEM.out]
      have hsc7 := (scan_any (some ⟨g7, 0, none⟩) (frames ls ++ ([0] ++ rs)) c7 W7 hown7.bytes (by rw [hl7]; exact hown7.le) hown7.cap (by rw [hl7]; omega) HCT2.out).mono fun e w' h => scanAny_of h
      rw [hl7] at hsc7
      have HSC7 := Lib.hid hsc7
      have HRW7 := Lib.hid hrw7
      clear hown7 hgr7 hb7 hrw7 hl7 hsc7
      go_wp2_with fail
      go_at_call 15
      (with_reducible refine (HSC7.out).mono ?_)
      rintro e W8 ⟨A8, k8, c8, ls8, n8, rfl, hk8, hs8, hr8, hb8⟩
      obtain ⟨els, en8⟩ := HIS2.out.unique hs8
      subst els en8
      have e8k : k8 = k3 := by rw [hk8, EK.out]
      subst e8k
      have hrw8 : Below wr.heap.size wr W8 := HRW7.out.trans (hb8.mono HRW7.out.size)
      have HS8 := Lib.hid (same04_below A8 A0 ls c8 cap k8 W8 hr8 (HRW.out.below hrw8) hk8 (by unfold maxLen; omega))
      have HRW8 := Lib.hid hrw8
      clear hk8 hs8 hr8 hb8 hrw8
      go_wp2_with fail
      go_at_call 17
      (with_reducible refine (HS8.out).mono ?_)
      rintro e W9 ⟨rfl, hb9⟩
      have HB9 := Lib.hid (HB.out.trans ((HRW8.out.trans (hb9.mono HRW8.out.size)).mono HB.out.size))
      clear hb9
      go_wp2_with fail
      go_at_call 9
      (with_reducible refine (alive_any _).mono ?_)
      rintro e W10 ⟨rfl, hb10⟩
      have HB10 := Lib.hid (HB9.out.trans (hb10.mono HB9.out.size))
      clear hb10
      go_wp2_with fail
      go_ret
      exact ⟨rfl, HB10.out⟩
end Go.Proofs.Ythdenpdhckichaa

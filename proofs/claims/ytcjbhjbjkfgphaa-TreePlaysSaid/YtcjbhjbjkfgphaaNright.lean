/-
  The program's Right, Get, Version and Len, of any tree of its own. Condition: no text is longer than 2^48 bytes.
-/
import Derived.Test.YtcjbhjbjkfgphaaNtree
import Derived.Test.YtcjbhjbjkfgphaaTalike
import Derived.Lib.ConvBytes
namespace Go.Proofs.Ytcjbhjbjkfgphaa
open Go.RowKit Go.Deep

set_option maxRecDepth 100000 in
set_option maxHeartbeats 2000000 in
theorem tree_right (s : ByteArray) (w : World) (hs : s.size ≤ 281474976710656) : Calls Try.prog 14 #[.string s] w (Answers (.bool (decide (RightP s))) w) := by
  have hcv := Lib.run_convert_string_bytes (P := Try.prog) w 9 62 5 s Try.underlying9 Try.underlying62 Try.underlying5
  have hcell : ∀ j (h : j < s.size), (Lib.bytesWorld w 5 s).cell? ⟨w.heap.size, j, none⟩ = some (.int .u8 (s[j].toNat : Int)) := fun j h => by
    have h1 := Lib.bytesWorld_cell w 5 s j h
    have h2 : s.data.toList.getD j 0 = s[j] := by
      rw [List.getD_eq_getElem?_getD, List.getElem?_eq_getElem (by simpa using h)]
      rfl
    rw [h2] at h1
    exact h1
  have hbel : Below w.heap.size w (Lib.bytesWorld w 5 s) := ⟨rfl, rfl, rfl, by rw [Lib.bytesWorld_size]; omega, fun j hj => Lib.bytesWorld_at_old w 5 s j hj⟩
  obtain ⟨cap, ecap⟩ : ∃ c, c = grownCap w s.size 0 5 := ⟨_, rfl⟩
  obtain ⟨WB, eWB⟩ : ∃ W, W = Lib.bytesWorld w 5 s := ⟨_, rfl⟩
  rw [← ecap, ← eWB] at hcv
  rw [← eWB] at hcell hbel
  have HC := Lib.hid hcell
  have HB := Lib.hid hbel
  clear hcell hbel ecap eWB
  go_enter Try.func14, Try.ntmps14
  go_wp2_with fail
  clear hcv
  go_loop [8] (fun iv => ∃ i : Nat, iv = .int .i64 (i : Int) ∧ i ≤ s.size ∧ Hid (∀ j (h : j < s.size), j < i → 33 ≤ s[j].toNat ∧ s[j].toNat ≤ 126)) (fun iv => s.size - (intOf iv).toNat)
  case atStart => exact ⟨0, rfl, Nat.zero_le _, Lib.hid fun j _ h => by omega⟩
  case round =>
    obtain ⟨i, rfl, hi, HALL⟩ := hrel
    by_cases hlt : i < s.size
    · have hiI : (i : Int) < (s.size : Int) := by omega
      have hi0 : (0 : Int) ≤ (i : Int) := by omega
      have kc0 : WB.cell? ⟨w.heap.size, 0 + i, none⟩ = some (.int .u8 (s[i].toNat : Int)) := by rw [Nat.zero_add]; exact HC.out i hlt
      have kc1 : WB.cell? ⟨w.heap.size, i, none⟩ = some (.int .u8 (s[i].toNat : Int)) := HC.out i hlt
      obtain ⟨v, ev⟩ : ∃ v : Nat, v = s[i].toNat := ⟨_, rfl⟩
      rw [← ev] at kc0 kc1
      by_cases h33 : v < 33
      · have g1 : decide ((v : Int) < 33) = true := decide_eq_true (by omega)
        have g1n : decide (v < 33) = true := decide_eq_true (by omega)
        have HN := Lib.hid (show ¬ RightP s from fun h => by have := (h.2.2 i hlt).1; omega)
        clear h33 ev
        go_wp2_with fail
        go_ret
        exact ⟨by rw [decide_eq_false HN.out]; rfl, HB.out⟩
      · have g1 : decide ((v : Int) < 33) = false := decide_eq_false (by omega)
        have g1n : decide (v < 33) = false := decide_eq_false (by omega)
        by_cases h126 : 126 < v
        · have g2 : decide (126 < (v : Int)) = true := decide_eq_true (by omega)
          have g2n : decide (126 < v) = true := decide_eq_true (by omega)
          have HN := Lib.hid (show ¬ RightP s from fun h => by have := (h.2.2 i hlt).2; omega)
          clear h33 h126 ev
          go_wp2_with fail
          go_ret
          exact ⟨by rw [decide_eq_false HN.out]; rfl, HB.out⟩
        · have g2 : decide (126 < (v : Int)) = false := decide_eq_false (by omega)
          have g2n : decide (126 < v) = false := decide_eq_false (by omega)
          have HNX := Lib.hid (show ∀ j (h : j < s.size), j < i + 1 → 33 ≤ s[j].toNat ∧ s[j].toNat ≤ 126 from fun j h hj => by
            by_cases e : j = i
            · subst e; omega
            · exact HALL.out j h (by omega))
          clear h33 h126 ev
          go_wp2_with fail
          go_round
          case rel => exact ⟨i + 1, by go_num, by omega, HNX⟩
          case measure => simp [intOf]; omega
    · have hie : i = s.size := by omega
      have hin : ¬ (i : Int) < (s.size : Int) := by omega
      by_cases h1 : 1 ≤ s.size
      · have g1 : decide ((1 : Int) ≤ (s.size : Int)) = true := decide_eq_true (by omega)
        have g1n : decide (1 ≤ s.size) = true := decide_eq_true h1
        have g1m : decide (0 < s.size) = true := decide_eq_true h1
        have HEQ := Lib.hid (show decide (RightP s) = decide ((s.size : Int) ≤ 32) from by
          by_cases h32 : s.size ≤ 32
          · rw [decide_eq_true (show RightP s from ⟨h1, h32, fun j hj => HALL.out j hj (by omega)⟩), decide_eq_true (by omega)]
          · rw [decide_eq_false (fun h => h32 h.2.1), decide_eq_false (by omega)])
        clear h1 hie hlt hi
        go_wp2_with fail
        go_ret
        exact ⟨by rw [HEQ.out]; simp, HB.out⟩
      · have g1 : decide ((1 : Int) ≤ (s.size : Int)) = false := decide_eq_false (by omega)
        have g1n : decide (1 ≤ s.size) = false := decide_eq_false h1
        have g1m : decide (0 < s.size) = false := decide_eq_false h1
        have HEQ := Lib.hid (show decide (RightP s) = false from decide_eq_false fun h => h1 h.1)
        clear h1 hie hlt hi
        go_wp2_with fail
        go_ret
        exact ⟨by rw [HEQ.out]; rfl, HB.out⟩
theorem tree_len {w : World} {p : Option Addr} {fs : List FileM} (h : TreeIs w p fs) : Calls Try.prog 20 #[.pointer p] w (Answers (.int .i64 (fs.length : Int)) w) := by
  obtain ⟨xs, r, rfl, hg, hr, ht⟩ := h.top
  refine (len_top ht).mono ?_
  rintro e w' ⟨rfl, rfl⟩
  exact ⟨by rw [List.length_map], Below.refl _ _⟩
theorem getF_x {xs : List FX} {s : ByteArray} : (∀ x ∈ xs, x.f.path ≠ s) → getF (xs.map (·.f)) s = (⟨#[]⟩, 0, false) := fun h =>
  getF_none (findF_none.2 fun f hf => by
    obtain ⟨x, hx, rfl⟩ := List.mem_map.1 hf
    exact h x hx)
theorem getF_y : ∀ {xs : List FX} {x : FX}, RisingX xs → x ∈ xs → getF (xs.map (·.f)) x.f.path = (x.f.text, x.f.ver, true)
  | y :: xs, x, ⟨h1, h2⟩, hx => by
    by_cases he : y.f.path = x.f.path
    · rcases List.mem_cons.1 hx with rfl | hx
      · simp [getF]
      · have := pless_ne (h1 x.f (List.mem_map_of_mem hx))
        exact absurd he this
    · rcases List.mem_cons.1 hx with rfl | hx
      · exact absurd rfl he
      · have ih := getF_y h2 hx
        rw [← ih]
        simp [getF, he]
set_option maxRecDepth 100000 in
set_option maxHeartbeats 2000000 in
theorem tree_get {w : World} {p : Option Addr} {fs : List FileM} (s : ByteArray) (h : TreeIs w p fs) : Calls Try.prog 21 #[.pointer p, .string s] w (GetIs RopeIs (getF fs s) w) := by
  obtain ⟨xs, r, rfl, hg, hr, ht⟩ := h.top
  have HF := Lib.hid (find_is s ht hr hg.rise)
  have HG := Lib.hid hg
  clear hg hr ht h
  go_enter Try.func21, Try.ntmps21
  go_wp2_with fail
  go_at_call 27
  (with_reducible refine HF.out.mono ?_)
  rintro e w1 (⟨x, hx, hxs, rfl, hb⟩ | ⟨hno, rfl, hb⟩)
  · have HB := Lib.hid (hb.trans ((bl1 w1 (.cells #[.string x.f.path, .int .i64 x.f.ver, .pointer x.q] 68)).mono hb.size))
    have HX := Lib.hid (And.intro hx hxs)
    clear hx hxs hb
    go_wp2_with fail
    go_quiet (fail)
    go_wp2_with fail
    have hbz := HB.out.trans ((below_drewN2 _ nq).mono HB.out.size)
    have hf : getF (xs.map (·.f)) s = (x.f.text, x.f.ver, true) := by rw [← HX.out.2]; exact getF_y HG.out.rise HX.out.1
    obtain ⟨l, hl1, hl2⟩ := HG.out.ropes x HX.out.1
    refine bodyPost_ret (v := .tuple #[.pointer x.q, .int .i64 x.f.ver, .bool true]) (by simp [results, Try.results21, go_sem]) rfl ⟨x.q, l, by rw [hf], hl1.below hbz, by rw [hf]; exact hl2, hbz⟩
  · have HB := Lib.hid (hb.trans ((bl1 w1 (.cells #[.string ⟨#[]⟩, .int .i64 0, .pointer none] 68)).mono hb.size))
    have HNO := Lib.hid hno
    clear hno hb
    go_wp2_with fail
    go_quiet (fail)
    go_wp2_with fail
    have hbz := HB.out.trans ((below_drewN2 _ nq).mono HB.out.size)
    have hf := getF_x HNO.out
    refine bodyPost_ret (v := .tuple #[.pointer none, .int .i64 0, .bool false]) (by simp [results, Try.results21, go_sem]) rfl ⟨none, [], by rw [hf], rope_few.nil _, by rw [hf]; rfl, hbz⟩
set_option maxRecDepth 100000 in
set_option maxHeartbeats 2000000 in
theorem tree_version {w : World} {p : Option Addr} {fs : List FileM} (s : ByteArray) (h : TreeIs w p fs) : Calls Try.prog 24 #[.pointer p, .string s] w (Answers (.int .i64 (getF fs s).2.1) w) := by
  obtain ⟨xs, r, rfl, hg, hr, ht⟩ := h.top
  have HF := Lib.hid (find_is s ht hr hg.rise)
  have HG := Lib.hid hg
  clear hg hr ht h
  go_enter Try.func24, Try.ntmps24
  go_wp2_with fail
  go_at_call 27
  (with_reducible refine HF.out.mono ?_)
  rintro e w1 (⟨x, hx, hxs, rfl, hb⟩ | ⟨hno, rfl, hb⟩)
  · have HB := Lib.hid (hb.trans ((bl1 w1 (.cells #[.string x.f.path, .int .i64 x.f.ver, .pointer x.q] 68)).mono hb.size))
    have HX := Lib.hid (And.intro hx hxs)
    clear hx hxs hb
    go_wp2_with fail
    go_ret
    have hf : getF (xs.map (·.f)) s = (x.f.text, x.f.ver, true) := by rw [← HX.out.2]; exact getF_y HG.out.rise HX.out.1
    exact ⟨by rw [hf]; rfl, HB.out⟩
  · have HB := Lib.hid (hb.trans ((bl1 w1 (.cells #[.string ⟨#[]⟩, .int .i64 0, .pointer none] 68)).mono hb.size))
    have HNO := Lib.hid hno
    clear hno hb
    go_wp2_with fail
    go_ret
    have hf := getF_x HNO.out
    exact ⟨by rw [hf]; rfl, HB.out⟩
end Go.Proofs.Ytcjbhjbjkfgphaa

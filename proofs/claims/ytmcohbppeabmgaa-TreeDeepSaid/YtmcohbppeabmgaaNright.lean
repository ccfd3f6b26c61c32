/-
  The program's Right, Get, Version and Len, of any tree of its own. Condition: no text is longer than 2^48 bytes.
-/
import Derived.Test.YtmcohbppeabmgaaNtree
import Derived.Test.YtmcohbppeabmgaaTalike
import Derived.Lib.ConvBytes
namespace Go.Proofs.Ytmcohbppeabmgaa
open Go.RowKit Go.Deep

set_option maxRecDepth 100000 in
set_option maxHeartbeats 2000000 in
theorem tree_right (s : ByteArray) (w : World) (hs : s.size ≤ 281474976710656) : Calls Try.prog 15 #[.string s] w (Answers (.bool (decide (RightP s))) w) := by
  have hcv := Lib.run_convert_string_bytes (P := Try.prog) w 9 64 5 s Try.underlying9 Try.underlying64 Try.underlying5
  have hcell : ∀ j (h : j < s.size), (Lib.bytesWorld w 5 s).cell? ⟨w.heap.size, j, none⟩ = some (.int .u8 (s[j].toNat : Int)) := fun j h => by
    have h1 := Lib.bytesWorld_cell w 5 s j h
    have h2 : s.data.toList.getD j 0 = s[j] := by
      rw [List.getD_eq_getElem?_getD, List.getElem?_eq_getElem (by simpa using h)]
      rfl
    rw [h2] at h1
    exact h1
  have hbel : Below w.heap.size w (Lib.bytesWorld w 5 s) := ⟨rfl, rfl, rfl, by rw [Lib.bytesWorld_size]; omega, fun j hj => Lib.bytesWorld_at_old w 5 s j hj⟩
  obtain ⟨cap, ecap⟩ : ∃ c, c = grownCap w s.size 0 5 := ⟨_, rfl⟩
  obtain ⟨WB, eWB⟩ : ∃ W, W = Lib.bytesWorld w 5 s := ⟨_, rfl⟩
  rw [← ecap, ← eWB] at hcv
  rw [← eWB] at hcell hbel
  have HC := Lib.hid hcell
  have HB := Lib.hid hbel
  clear hcell hbel ecap eWB
  go_enter Try.func15, Try.ntmps15
  go_wp2_with fail
  clear hcv
  go_loop [8] (fun iv => ∃ i : Nat, iv = .int .i64 (i : Int) ∧ i ≤ s.size ∧ Hid (∀ j (h : j < s.size), j < i → 33 ≤ s[j].toNat ∧ s[j].toNat ≤ 126)) (fun iv => s.size - (intOf iv).toNat)
  case atStart => exact ⟨0, rfl, Nat.zero_le _, Lib.hid fun j _ h => by omega⟩
  case round =>
    obtain ⟨i, rfl, hi, HALL⟩ := hrel
    by_cases hlt : i < s.size
    · have hiI : (i : Int) < (s.size : Int) := by omega
      have hi0 : (0 : Int) ≤ (i : Int) := by omega
      have kc0 : WB.cell? ⟨w.heap.size, 0 + i, none⟩ = some (.int .u8 (s[i].toNat : Int)) := by rw [Nat.zero_add]; exact HC.out i hlt
      have kc1 : WB.cell? ⟨w.heap.size, i, none⟩ = some (.int .u8 (s[i].toNat : Int)) := HC.out i hlt
      obtain ⟨v, ev⟩ : ∃ v : Nat, v = s[i].toNat := ⟨_, rfl⟩
      rw [← ev] at kc0 kc1
      by_cases h33 : v < 33
      · have g1 : decide ((v : Int) < 33) = true := decide_eq_true (by omega)
        have g1n : decide (v < 33) = true := decide_eq_true (by omega)
        have HN := Lib.hid (show ¬ RightP s from fun h => by have := (h.2.2 i hlt).1; omega)
        clear h33 ev
        go_wp2_with fail
        go_ret
        exact ⟨by rw [decide_eq_false HN.out]; rfl, HB.out⟩
      · have g1 : decide ((v : Int) < 33) = false := decide_eq_false (by omega)
        have g1n : decide (v < 33) = false := decide_eq_false (by omega)
        by_cases h126 : 126 < v
        · have g2 : decide (126 < (v : Int)) = true := decide_eq_true (by omega)
          have g2n : decide (126 < v) = true := decide_eq_true (by omega)
          have HN := Lib.hid (show ¬ RightP s from fun h => by have := (h.2.2 i hlt).2; omega)
          clear h33 h126 ev
          go_wp2_with fail
          go_ret
          exact ⟨by rw [decide_eq_false HN.out]; rfl, HB.out⟩
        · have g2 : decide (126 < (v : Int)) = false := decide_eq_false (by omega)
          have g2n : decide (126 < v) = false := decide_eq_false (by omega)
          have HNX := Lib.hid (show ∀ j (h : j < s.size), j < i + 1 → 33 ≤ s[j].toNat ∧ s[j].toNat ≤ 126 from fun j h hj => by
            by_cases e : j = i
            · subst e; omega
            · exact HALL.out j h (by omega))
          clear h33 h126 ev
          go_wp2_with fail
          go_round
          case rel => exact ⟨i + 1, by go_num, by omega, HNX⟩
          case measure => simp [intOf]; omega
    · have hie : i = s.size := by omega
      have hin : ¬ (i : Int) < (s.size : Int) := by omega
      by_cases h1 : 1 ≤ s.size
      · have g1 : decide ((1 : Int) ≤ (s.size : Int)) = true := decide_eq_true (by omega)
        have g1n : decide (1 ≤ s.size) = true := decide_eq_true h1
        have g1m : decide (0 < s.size) = true := decide_eq_true h1
        have HEQ := Lib.hid (show decide (RightP s) = decide ((s.size : Int) ≤ 32) from by
          by_cases h32 : s.size ≤ 32
          · rw [decide_eq_true (show RightP s from ⟨h1, h32, fun j hj => HALL.out j hj (by omega)⟩), decide_eq_true (by omega)]
          · rw [decide_eq_false (fun h => h32 h.2.1), decide_eq_false (by omega)])
        clear h1 hie hlt hi
        go_wp2_with fail
        go_ret
        exact ⟨by rw [HEQ.out]; simp, HB.out⟩
      · have g1 : decide ((1 : Int) ≤ (s.size : Int)) = false := decide_eq_false (by omega)
        have g1n : decide (1 ≤ s.size) = false := decide_eq_false h1
        have g1m : decide (0 < s.size) = false := decide_eq_false h1
        have HEQ := Lib.hid (show decide (RightP s) = false from decide_eq_false fun h => h1 h.1)
        clear h1 hie hlt hi
        go_wp2_with fail
        go_ret
        exact ⟨by rw [HEQ.out]; rfl, HB.out⟩
theorem tree_len {w : World} {p : Option Addr} {fs : List FileM} (h : TreeIs w p fs) : Calls Try.prog 21 #[.pointer p] w (Answers (.int .i64 (fs.length : Int)) w) := by
  obtain ⟨xs, r, rfl, hg, hr, ht⟩ := h.top
  refine (len_top ht).mono ?_
  rintro e w' ⟨rfl, rfl⟩
  exact ⟨by rw [List.length_map], Below.refl _ _⟩
theorem getF_x {xs : List FX} {s : ByteArray} : (∀ x ∈ xs, x.f.path ≠ s) → getF (xs.map (·.f)) s = (⟨#[]⟩, 0, false) := fun h =>
  getF_none (findF_none.2 fun f hf => by
    obtain ⟨x, hx, rfl⟩ := List.mem_map.1 hf
    exact h x hx)
theorem getF_y : ∀ {xs : List FX} {x : FX}, RisingX xs → x ∈ xs → getF (xs.map (·.f)) x.f.path = (x.f.text, x.f.ver, true)
  | y :: xs, x, ⟨h1, h2⟩, hx => by
    by_cases he : y.f.path = x.f.path
    · rcases List.mem_cons.1 hx with rfl | hx
      · simp [getF]
      · have := pless_ne (h1 x.f (List.mem_map_of_mem hx))
        exact absurd he this
    · rcases List.mem_cons.1 hx with rfl | hx
      · exact absurd rfl he
      · have ih := getF_y h2 hx
        rw [← ih]
        simp [getF, he]
set_option maxRecDepth 100000 in
set_option maxHeartbeats 2000000 in
theorem tree_get {w : World} {p : Option Addr} {fs : List FileM} (s : ByteArray) (h : TreeIs w p fs) : Calls Try.prog 23 #[.pointer p, .string s] w (GetIs RopeIs (getF fs s) w) := by
  obtain ⟨xs, r, rfl, hg, hr, ht⟩ := h.top
  have HF := Lib.hid (find_is s ht hr hg.rise)
  have HG := Lib.hid hg
  clear hg hr ht h
  go_enter Try.func23, Try.ntmps23
  go_wp2_with fail
  go_at_call 29
  (with_reducible refine HF.out.mono ?_)
  rintro e w1 (⟨x, hx, hxs, rfl, hb⟩ | ⟨hno, rfl, hb⟩)
  · have HB := Lib.hid (hb.trans ((bl1 w1 (.cells #[.string x.f.path, .int .i64 x.f.ver, .pointer x.q] 70)).mono hb.size))
    have HX := Lib.hid (And.intro hx hxs)
    clear hx hxs hb
    go_wp2_with fail
    go_quiet (fail)
    go_wp2_with fail
    have hbz := HB.out.trans ((below_drewN2 _ nq).mono HB.out.size)
    have hf : getF (xs.map (·.f)) s = (x.f.text, x.f.ver, true) := by rw [← HX.out.2]; exact getF_y HG.out.rise HX.out.1
    obtain ⟨l, hl1, hl2⟩ := HG.out.ropes x HX.out.1
    refine bodyPost_ret (v := .tuple #[.pointer x.q, .int .i64 x.f.ver, .bool true]) (by simp [results, Try.results23, go_sem]) rfl ⟨x.q, l, by rw [hf], hl1.below hbz, by rw [hf]; exact hl2, hbz⟩
  · have HB := Lib.hid (hb.trans ((bl1 w1 (.cells #[.string ⟨#[]⟩, .int .i64 0, .pointer none] 70)).mono hb.size))
    have HNO := Lib.hid hno
    clear hno hb
    go_wp2_with fail
    go_quiet (fail)
    go_wp2_with fail
    have hbz := HB.out.trans ((below_drewN2 _ nq).mono HB.out.size)
    have hf := getF_x HNO.out
    refine bodyPost_ret (v := .tuple #[.pointer none, .int .i64 0, .bool false]) (by simp [results, Try.results23, go_sem]) rfl ⟨none, [], by rw [hf], rope_few.nil _, by rw [hf]; rfl, hbz⟩
set_option maxRecDepth 100000 in
set_option maxHeartbeats 2000000 in
theorem tree_version {w : World} {p : Option Addr} {fs : List FileM} (s : ByteArray) (h : TreeIs w p fs) : Calls Try.prog 26 #[.pointer p, .string s] w (Answers (.int .i64 (getF fs s).2.1) w) := by
  obtain ⟨xs, r, rfl, hg, hr, ht⟩ := h.top
  have HF := Lib.hid (find_is s ht hr hg.rise)
  have HG := Lib.hid hg
  clear hg hr ht h
  go_enter Try.func26, Try.ntmps26
  go_wp2_with fail
  go_at_call 29
  (with_reducible refine HF.out.mono ?_)
  rintro e w1 (⟨x, hx, hxs, rfl, hb⟩ | ⟨hno, rfl, hb⟩)
  · have HB := Lib.hid (hb.trans ((bl1 w1 (.cells #[.string x.f.path, .int .i64 x.f.ver, .pointer x.q] 70)).mono hb.size))
    have HX := Lib.hid (And.intro hx hxs)
    clear hx hxs hb
    go_wp2_with fail
    go_ret
    have hf : getF (xs.map (·.f)) s = (x.f.text, x.f.ver, true) := by rw [← HX.out.2]; exact getF_y HG.out.rise HX.out.1
    exact ⟨by rw [hf]; rfl, HB.out⟩
  · have HB := Lib.hid (hb.trans ((bl1 w1 (.cells #[.string ⟨#[]⟩, .int .i64 0, .pointer none] 70)).mono hb.size))
    have HNO := Lib.hid hno
    clear hno hb
    go_wp2_with fail
    go_ret
    have hf := getF_x HNO.out
    exact ⟨by rw [hf]; rfl, HB.out⟩
def DeepRel (w : World) (h0 : Nat) (dv nv : Value) (wr : World) : Prop := w = wr ∧ ((nv = .pointer none ∧ dv = .int .i64 ((h0 + 1 : Nat) : Int)) ∨ ∃ (h : Nat) (t : NT h) (b : Nat), nv = .pointer (some ⟨b, 0, none⟩) ∧ IsN w h t b ∧ NT.ok 1 2 h t ∧ h ≤ h0 ∧ dv = .int .i64 ((h0 - h : Nat) : Int))
set_option maxRecDepth 100000 in
set_option maxHeartbeats 2000000 in
theorem deep_of {w : World} {p r : Option Addr} {n : Nat} {xs : List FX} (ht : TopIs w p r n) (hr : RootIs w r xs) (hn : xs.length ≤ 1024) : Calls Try.prog 22 #[.pointer p] w fun e w' => (∃ d : Nat, e = .returned (.int .i64 (d : Int)) ∧ 2 ^ d ≤ 2 * (xs.length + 1) ∧ (d = 0 ↔ xs = [])) ∧ Below w.heap.size w w' := by
  have HTOP := Lib.hid (top_is ht)
  rcases hr with ⟨rfl, rfl⟩ | ⟨h0, t0, b0, rfl, h1, h2, rfl⟩
  · clear hn
    go_enter Try.func22, Try.ntmps22
    go_wp2_with fail
    go_at_call 30
    (with_reducible refine HTOP.out.mono ?_)
    rintro e w0 ⟨rfl, rfl⟩
    go_wp2_with fail
    go_loopw [3, 4] (fun dv nv wr => w = wr ∧ dv = .int .i64 0 ∧ nv = .pointer none) (fun _ _ _ => 0)
    case atStart => exact ⟨rfl, rfl, rfl⟩
    case round =>
      obtain ⟨rfl, rfl, rfl⟩ := hrel
      go_wp2_with fail
      go_ret
      exact ⟨⟨0, rfl, by simp, by simp⟩, Below.refl _ _⟩
  · have hd := h2.deep (Nat.le_refl 1)
    have HD := Lib.hid hd
    have hh : h0 ≤ 1024 := by
      have := Nat.lt_two_pow_self (n := h0 + 1)
      omega
    have HH := Lib.hid hh
    have H1 := Lib.hid (And.intro h1 h2)
    clear h1 h2 hn hd hh
    go_enter Try.func22, Try.ntmps22
    go_wp2_with fail
    go_at_call 30
    (with_reducible refine HTOP.out.mono ?_)
    rintro e w0 ⟨rfl, rfl⟩
    go_wp2_with fail
    go_loopw [3, 4] (fun dv nv wr => DeepRel w h0 dv nv wr) (fun dv nv _ => match nv with | .pointer (some _) => h0 + 1 - (intOf dv).toNat | _ => 0)
    case atStart => exact ⟨rfl, .inr ⟨h0, t0, b0, rfl, H1.out.1, H1.out.2, Nat.le_refl _, by rw [Nat.sub_self]; rfl⟩⟩
    case round =>
      obtain ⟨rfl, ⟨rfl, rfl⟩ | ⟨h, t, b, rfl, hn, ho, hle, rfl⟩⟩ := hrel
      · obtain ⟨d, ed⟩ : ∃ d, d = h0 + 1 := ⟨_, rfl⟩
        rw [← ed]
        have ED := Lib.hid ed
        clear ed
        go_wp2_with fail
        go_ret
        refine ⟨⟨d, rfl, ?_, ?_⟩, Below.refl _ _⟩
        · rw [ED.out]
          have := HD.out
          omega
        · have h1 := HD.out
          have h2 : 0 < 2 ^ (h0 + 1) := Nat.two_pow_pos _
          constructor
          · intro h
            have := ED.out
            omega
          · intro h
            rw [h] at h1
            have := Nat.lt_two_pow_self (n := h0 + 1)
            simp at h1
      · obtain ⟨d, ed⟩ : ∃ d, d = h0 - h := ⟨_, rfl⟩
        rw [← ed]
        obtain ⟨d1, ed1⟩ : ∃ q, q = d + 1 := ⟨_, rfl⟩
        have hh := HH.out
        have q1 : IntKind.i64.wrap ((d : Int) + 1) = (d1 : Int) := by rw [show (d : Int) + 1 = (d1 : Int) by omega]; exact IntWalk.i64_in _ (by omega)
        cases h with
        | zero =>
          have HKID := Lib.hid (kid_none (w := w) (b := b) (fs := t) (show NodeAt w b t [] from hn) 0)
          have HE := Lib.hid (show d1 = h0 + 1 by omega)
          have HDD := Lib.hid (show d = h0 by omega)
          clear hn ho hle ed ed1 hh
          go_wp2_with fail
          go_at_call 34
          (with_reducible refine HKID.out.mono ?_)
          rintro e w2 ⟨rfl, rfl⟩
          go_wp2_with fail
          go_roundw
          case rel => exact ⟨rfl, .inl ⟨rfl, by rw [HE.out]⟩⟩
          case measure =>
            show 0 < h0 + 1 - (d : Int).toNat
            have := HDD.out
            omega
        | succ h =>
          obtain ⟨fs, ks⟩ := t
          obtain ⟨ad2, hn2, hkl, hkids⟩ := hn
          obtain ⟨o1, o2, o3, o4⟩ := ho
          obtain ⟨T0, hT0⟩ : ∃ t, ks[0]? = some t := ⟨ks[0]'(by omega), List.getElem?_eq_getElem _⟩
          obtain ⟨a0, ha0⟩ : ∃ a, ad2[0]? = some a := ⟨ad2[0]'(by omega), List.getElem?_eq_getElem _⟩
          have HKID := Lib.hid (show Calls Try.prog 34 #[.pointer (some ⟨b, 0, none⟩), .int .i64 0] w (fun e w' => e = .returned (.pointer (some ⟨a0, 0, none⟩)) ∧ w = w') from kid_some hn2 0 a0 ha0 (by omega))
          have HREL := Lib.hid (show DeepRel w h0 (.int .i64 (d1 : Int)) (.pointer (some ⟨a0, 0, none⟩)) w from ⟨rfl, .inr ⟨h, T0, a0, rfl, hkids 0 T0 a0 hT0 ha0, o4 T0 (List.mem_of_getElem? hT0), by omega, by rw [show d1 = h0 - h by omega]⟩⟩)
          have HMS := Lib.hid (show h0 + 1 - d1 < h0 + 1 - d by omega)
          clear hn2 hkl hkids o1 o2 o3 o4 hT0 ha0 hle ed ed1 hh
          go_wp2_with fail
          go_at_call 34
          (with_reducible refine HKID.out.mono ?_)
          rintro e w2 ⟨rfl, rfl⟩
          go_wp2_with fail
          go_roundw
          case rel => exact HREL.out
          case measure =>
            show h0 + 1 - (d1 : Int).toNat < h0 + 1 - (d : Int).toNat
            rw [Int.toNat_natCast, Int.toNat_natCast]
            exact HMS.out
theorem tree_deep {w : World} {p : Option Addr} {fs : List FileM} (h : TreeIs w p fs) : Calls Try.prog 22 #[.pointer p] w (DeepIs fs w) := by
  obtain ⟨xs, r, rfl, hg, hr, ht⟩ := h.top
  refine (deep_of ht hr hg.few).mono ?_
  rintro e w' ⟨⟨d, rfl, h1, h2⟩, hb⟩
  exact ⟨d, rfl, by rw [List.length_map]; exact h1, by rw [h2]; simp, hb⟩
end Go.Proofs.Ytmcohbppeabmgaa

/-
  RopeAlike, of any package of ropes whose ropes stay when another row turns. Conditions: the package's calls do what RopeApi says, and RopeFar.
-/
import Derived.Test.YtfibclaojdoonaaRapi
import Derived.Deep.RegionHeld3
namespace Go.Proofs.Ytfibclaojdoonaa
open Go.RowKit Go.Deep

/-- A rope stays where blocks turn that hold no rope's cells. -/
structure RopeFar (R : World → Option Addr → List UInt8 → Prop) : Prop where
  far : ∀ {w w' : World} {p : Option Addr} {l : List UInt8} {T : Nat → Prop}, R w p l → Turned T w w' → (∀ k, T k → ∀ cs fr, w.heap[k]? = some (.cells cs 60 fr) → False) → R w' p l

/-- Three texts, and the ropes made of the first n of them, in an array. -/
structure AlkSt (R : World → Option Addr → List UInt8 → Prop) (w0 : World) (s0 s1 s2 : ByteArray) (a b c : List UInt8) (n : Nat) (p0 p1 p2 : Option Addr) (W : World) : Prop where
  strs : W.heap[w0.heap.size]? = some (.cells #[.string s0, .string s1, .string s2] 48 (0, 0))
  arr : W.heap[w0.heap.size + 1]? = some (.cells #[.pointer p0, .pointer p1, .pointer p2] 49 (0, 0))
  r0 : 0 < n → R W p0 a
  r1 : 1 < n → R W p1 b
  r2 : 2 < n → R W p2 c
  below : Below w0.heap.size w0 W

section
variable {R : World → Option Addr → List UInt8 → Prop} {w0 W W' : World} {s0 s1 s2 : ByteArray} {a b c : List UInt8} {n : Nat} {p0 p1 p2 : Option Addr}
theorem AlkSt.later (K : RopeApi R) (h : AlkSt R w0 s0 s1 s2 a b c n p0 p1 p2 W) (hb : Below W.heap.size W W') : AlkSt R w0 s0 s1 s2 a b c n p0 p1 p2 W' :=
  ⟨Below.obj hb h.strs (lt_of_some h.strs), Below.obj hb h.arr (lt_of_some h.arr), fun k => K.below (h.r0 k) hb, fun k => K.below (h.r1 k) hb, fun k => K.below (h.r2 k) hb, h.below.trans (hb.mono h.below.size)⟩
theorem AlkSt.str (h : AlkSt R w0 s0 s1 s2 a b c n p0 p1 p2 W) : W.cell? ⟨w0.heap.size, 0, none⟩ = some (.string s0) ∧ W.cell? ⟨w0.heap.size, 1, none⟩ = some (.string s1) ∧ W.cell? ⟨w0.heap.size, 2, none⟩ = some (.string s2) :=
  ⟨cell_of_row _ _ 0 _ _ _ h.strs, cell_of_row _ _ 1 _ _ _ h.strs, cell_of_row _ _ 2 _ _ _ h.strs⟩
theorem AlkSt.ptr (h : AlkSt R w0 s0 s1 s2 a b c n p0 p1 p2 W) : W.cell? ⟨w0.heap.size + 1, 0, none⟩ = some (.pointer p0) ∧ W.cell? ⟨w0.heap.size + 1, 1, none⟩ = some (.pointer p1) ∧ W.cell? ⟨w0.heap.size + 1, 2, none⟩ = some (.pointer p2) :=
  ⟨cell_of_row _ _ 0 _ _ _ h.arr, cell_of_row _ _ 1 _ _ _ h.arr, cell_of_row _ _ 2 _ _ _ h.arr⟩
theorem AlkSt.free (h : AlkSt R w0 s0 s1 s2 a b c n p0 p1 p2 W) (j : Nat) : W.frozen? ⟨w0.heap.size + 1, j, none⟩ = false := by
  simp [World.frozen?, h.arr]
theorem turned_setCell (W : World) (p : Addr) (v : Value) : Turned (fun k => k = p.block) W (W.setCell p v) :=
  ⟨rfl, rfl, rfl, by simp [World.setCell], fun k _ hk => Below.heap_setCell _ _ _ _ (fun e => hk (by simp [e]))⟩
theorem AlkSt.kept (F : RopeFar R) (h : AlkSt R w0 s0 s1 s2 a b c n p0 p1 p2 W) (j : Nat) (v : Value) {p : Option Addr} {l : List UInt8} (hr : R W p l) : R (W.setCell ⟨w0.heap.size + 1, j, none⟩ v) p l :=
  F.far hr (turned_setCell W _ v) (by
    rintro k rfl cs fr hk
    have := h.arr
    rw [hk] at this
    injection this with this
    injection this with _ e _
    exact absurd e (by decide))
theorem AlkSt.strs' (h : AlkSt R w0 s0 s1 s2 a b c n p0 p1 p2 W) (j : Nat) (v : Value) : (W.setCell ⟨w0.heap.size + 1, j, none⟩ v).heap[w0.heap.size]? = some (.cells #[.string s0, .string s1, .string s2] 48 (0, 0)) :=
  (turned_setCell W _ v).obj h.strs (by simp)
theorem AlkSt.below' (h : AlkSt R w0 s0 s1 s2 a b c n p0 p1 p2 W) (j : Nat) (v : Value) : Below w0.heap.size w0 (W.setCell ⟨w0.heap.size + 1, j, none⟩ v) :=
  h.below.setCell (p := ⟨w0.heap.size + 1, j, none⟩) (by simp) _
theorem AlkSt.put0 (F : RopeFar R) (h : AlkSt R w0 s0 s1 s2 a b c 0 none none none W) {p : Option Addr} (hr : R W p a) : AlkSt R w0 s0 s1 s2 a b c 1 p none none (W.setCell ⟨w0.heap.size + 1, 0, none⟩ (.pointer p)) :=
  ⟨h.strs' 0 _, by simp [World.setCell, Array.getElem?_modify, h.arr], fun _ => h.kept F 0 _ hr, fun k => by omega, fun k => by omega, h.below' 0 _⟩
theorem AlkSt.put1 (F : RopeFar R) (h : AlkSt R w0 s0 s1 s2 a b c 1 p0 none none W) {p : Option Addr} (hr : R W p b) : AlkSt R w0 s0 s1 s2 a b c 2 p0 p none (W.setCell ⟨w0.heap.size + 1, 1, none⟩ (.pointer p)) :=
  ⟨h.strs' 1 _, by simp [World.setCell, Array.getElem?_modify, h.arr], fun _ => h.kept F 1 _ (h.r0 (by omega)), fun _ => h.kept F 1 _ hr, fun k => by omega, h.below' 1 _⟩
theorem AlkSt.put2 (F : RopeFar R) (h : AlkSt R w0 s0 s1 s2 a b c 2 p0 p1 none W) {p : Option Addr} (hr : R W p c) : AlkSt R w0 s0 s1 s2 a b c 3 p0 p1 p (W.setCell ⟨w0.heap.size + 1, 2, none⟩ (.pointer p)) :=
  ⟨h.strs' 2 _, by simp [World.setCell, Array.getElem?_modify, h.arr], fun _ => h.kept F 2 _ (h.r0 (by omega)), fun _ => h.kept F 2 _ (h.r1 (by omega)), fun _ => h.kept F 2 _ hr, h.below' 2 _⟩
/-- How far the loop has come. -/
def AlkAt (R : World → Option Addr → List UInt8 → Prop) (w0 : World) (s0 s1 s2 : ByteArray) (a b c : List UInt8) (v : Value) (W : World) : Prop :=
  (v = .int .i64 0 ∧ AlkSt R w0 s0 s1 s2 a b c 0 none none none W) ∨
  (v = .int .i64 1 ∧ s0.size ≤ 300 ∧ ∃ p0, AlkSt R w0 s0 s1 s2 a b c 1 p0 none none W) ∨
  (v = .int .i64 2 ∧ s0.size ≤ 300 ∧ s1.size ≤ 300 ∧ ∃ p0 p1, AlkSt R w0 s0 s1 s2 a b c 2 p0 p1 none W) ∨
  (v = .int .i64 3 ∧ s0.size ≤ 300 ∧ s1.size ≤ 300 ∧ s2.size ≤ 300 ∧ ∃ p0 p1 p2, AlkSt R w0 s0 s1 s2 a b c 3 p0 p1 p2 W)
theorem AlkSt.start (w0 : World) (s0 s1 s2 : ByteArray) (a b c : List UInt8) : AlkSt R w0 s0 s1 s2 a b c 0 none none none ((w0.alloc (.cells #[.string s0, .string s1, .string s2] 48)).alloc (.cells #[.pointer none, .pointer none, .pointer none] 49)) := by
  have h1 := heap_alloc_new w0 (.cells #[.string s0, .string s1, .string s2] 48)
  have h2 := heap_alloc_new (w0.alloc (.cells #[.string s0, .string s1, .string s2] 48)) (.cells #[.pointer none, .pointer none, .pointer none] 49)
  simp only [World.size_alloc] at h2
  exact ⟨Below.obj ((Below.refl _ _).alloc (Nat.le_refl _) _) h1 (lt_of_some h1), h2, fun k => by omega, fun k => by omega, fun k => by omega, ((Below.refl _ w0).alloc (Nat.le_refl _) _).alloc (by simp) _⟩

set_option maxRecDepth 100000 in
set_option maxHeartbeats 4000000 in
theorem alk_any (K : RopeApi R) (F : RopeFar R) (s0 s1 s2 : ByteArray) (n : Int) (w : World) (hn : (Lit.int .i64 n).wf = true) :
    Calls Try.prog 7 #[.agg #[.string s0, .string s1, .string s2], .int .i64 n] w (TrueIs w) := by
  obtain ⟨a, ea⟩ : ∃ a, s0 = txt a := ⟨s0.data.toList, (txt_of s0).symm⟩
  obtain ⟨b, eb⟩ : ∃ b, s1 = txt b := ⟨s1.data.toList, (txt_of s1).symm⟩
  obtain ⟨c, ec⟩ : ∃ c, s2 = txt c := ⟨s2.data.toList, (txt_of s2).symm⟩
  have HAL := Lib.hid fun (W : World) => alive_any K W
  have HSA := Lib.hid (AlkSt.start (R := R) w s0 s1 s2 a b c)
  have HE := Lib.hid (And.intro ea (And.intro eb ec))
  have HN := Lib.hid hn
  clear ea eb ec hn
  go_enter Try.func7, Try.ntmps7
  go_wp2_with fail
  obtain ⟨w1, ew1⟩ : ∃ w1, w1 = (w.alloc (.cells #[.string s0, .string s1, .string s2] 48)).alloc (.cells #[.pointer none, .pointer none, .pointer none] 49) := ⟨_, rfl⟩
  rw [← ew1] at HSA ⊢
  have EW1 := Lib.hid ew1
  clear ew1
  go_loopw [6] (fun v wr => AlkAt R w s0 s1 s2 a b c v wr) (fun v _ => 3 - (intOf v).toNat)
  case atStart => exact .inl ⟨rfl, HSA.out⟩
  case round =>
    obtain ⟨ea, eb, ec⟩ := HE.out
    rcases hrel with ⟨rfl, hs⟩ | ⟨rfl, l0, p0, hs⟩ | ⟨rfl, l0, l1, p0, p1, hs⟩ | ⟨rfl, l0, l1, l2, p0, p1, p2, hs⟩
    · obtain ⟨t0, _, _⟩ := hs.str
      have HS := Lib.hid hs
      by_cases h : 300 < s0.size
      · have d1 : decide (300 < (s0.size : Int)) = true := decide_eq_true (by omega)
        have d1n : decide (300 < s0.size) = true := decide_eq_true (by omega)
        clear hs ea eb ec h
        go_wp2_with fail
        go_at_call 15
        (with_reducible refine (HAL.out _).mono ?_)
        rintro e w2 ⟨rfl, hb⟩
        have HB := Lib.hid (HS.out.below.trans (hb.mono HS.out.below.size))
        clear hb
        go_wp2_with fail
        go_ret
        exact ⟨rfl, HB.out⟩
      · have d1 : decide (300 < (s0.size : Int)) = false := decide_eq_false (by omega)
        have d1n : decide (300 < s0.size) = false := decide_eq_false (by omega)
        have HO := Lib.hid fun (W : World) => K.of_ok a s0 W ea (by have := size_txt a; rw [← ea] at this; omega)
        have HL := Lib.hid (show s0.size ≤ 300 by omega)
        clear hs ea eb ec h
        go_wp2_with fail
        go_at_call 9
        (with_reducible refine (HO.out _).mono ?_)
        rintro e w2 ⟨p, rfl, hr, hb⟩
        have hs2 := HS.out.later K hb
        obtain ⟨c0, c1, c2⟩ := hs2.ptr
        have f0 := hs2.free 0
        have HR := Lib.hid (hs2.put0 F hr)
        clear hs2 hr hb t0
        go_wp2_with fail
        go_roundw
        case rel => exact .inr (.inl ⟨by go_num, HL.out, p, HR.out⟩)
        case measure => simp [intOf]
    · obtain ⟨_, t1, _⟩ := hs.str
      have HS := Lib.hid hs
      by_cases h : 300 < s1.size
      · have d1 : decide (300 < (s1.size : Int)) = true := decide_eq_true (by omega)
        have d1n : decide (300 < s1.size) = true := decide_eq_true (by omega)
        clear hs ea eb ec h
        go_wp2_with fail
        go_at_call 15
        (with_reducible refine (HAL.out _).mono ?_)
        rintro e w2 ⟨rfl, hb⟩
        have HB := Lib.hid (HS.out.below.trans (hb.mono HS.out.below.size))
        clear hb
        go_wp2_with fail
        go_ret
        exact ⟨rfl, HB.out⟩
      · have d1 : decide (300 < (s1.size : Int)) = false := decide_eq_false (by omega)
        have d1n : decide (300 < s1.size) = false := decide_eq_false (by omega)
        have HO := Lib.hid fun (W : World) => K.of_ok b s1 W eb (by have := size_txt b; rw [← eb] at this; omega)
        have HL := Lib.hid (show s0.size ≤ 300 ∧ s1.size ≤ 300 by omega)
        clear hs ea eb ec h l0
        go_wp2_with fail
        go_at_call 9
        (with_reducible refine (HO.out _).mono ?_)
        rintro e w2 ⟨p, rfl, hr, hb⟩
        have hs2 := HS.out.later K hb
        obtain ⟨c0, c1, c2⟩ := hs2.ptr
        have f0 := hs2.free 1
        have HR := Lib.hid (hs2.put1 F hr)
        clear hs2 hr hb t1
        go_wp2_with fail
        go_roundw
        case rel => exact .inr (.inr (.inl ⟨by go_num, HL.out.1, HL.out.2, p0, p, HR.out⟩))
        case measure => simp [intOf]
    · obtain ⟨_, _, t2⟩ := hs.str
      have HS := Lib.hid hs
      by_cases h : 300 < s2.size
      · have d1 : decide (300 < (s2.size : Int)) = true := decide_eq_true (by omega)
        have d1n : decide (300 < s2.size) = true := decide_eq_true (by omega)
        clear hs ea eb ec h
        go_wp2_with fail
        go_at_call 15
        (with_reducible refine (HAL.out _).mono ?_)
        rintro e w2 ⟨rfl, hb⟩
        have HB := Lib.hid (HS.out.below.trans (hb.mono HS.out.below.size))
        clear hb
        go_wp2_with fail
        go_ret
        exact ⟨rfl, HB.out⟩
      · have d1 : decide (300 < (s2.size : Int)) = false := decide_eq_false (by omega)
        have d1n : decide (300 < s2.size) = false := decide_eq_false (by omega)
        have HO := Lib.hid fun (W : World) => K.of_ok c s2 W ec (by have := size_txt c; rw [← ec] at this; omega)
        have HL := Lib.hid (show s0.size ≤ 300 ∧ s1.size ≤ 300 ∧ s2.size ≤ 300 by omega)
        clear hs ea eb ec h l0 l1
        go_wp2_with fail
        go_at_call 9
        (with_reducible refine (HO.out _).mono ?_)
        rintro e w2 ⟨p, rfl, hr, hb⟩
        have hs2 := HS.out.later K hb
        obtain ⟨c0, c1, c2⟩ := hs2.ptr
        have f0 := hs2.free 2
        have HR := Lib.hid (hs2.put2 F hr)
        clear hs2 hr hb t2
        go_wp2_with fail
        go_roundw
        case rel => exact .inr (.inr (.inr ⟨by go_num, HL.out.1, HL.out.2.1, HL.out.2.2, p0, p1, p, HR.out⟩))
        case measure => simp [intOf]
    · have hla : a.length = s0.size := by rw [ea, size_txt]
      have hlb : b.length = s1.size := by rw [eb, size_txt]
      have hlc : c.length = s2.size := by rw [ec, size_txt]
      obtain ⟨L, eL⟩ : ∃ L, L = a ++ b ++ c := ⟨_, rfl⟩
      have eL2 : a ++ (b ++ c) = L := by rw [eL, List.append_assoc]
      have eT : txt L = s0 ++ s1 ++ s2 := by rw [eL, ← txt_append, ← txt_append, ← ea, ← eb, ← ec]
      have fit1 : (9223372036854775807 < s0.size + s1.size) = False := eq_false (by omega)
      have fit2 : (9223372036854775807 < (s0 ++ s1).size + s2.size) = False := eq_false (by rw [ByteArray.size_append]; omega)
      have fit3 : (9223372036854775807 < s0.size + s1.size + s2.size) = False := eq_false (by omega)
      obtain ⟨x, d, exd⟩ : ∃ x d, indexAns L n = (x, d) := ⟨_, _, rfl⟩
      obtain ⟨T0, bb, f, eln⟩ : ∃ T0 b f, lineAns L n = (T0, b, f) := ⟨_, _, _, rfl⟩
      obtain ⟨T, eT0⟩ : ∃ T, T = txt T0 := ⟨_, rfl⟩
      obtain ⟨N, eN⟩ : ∃ N, N = (lns L).length := ⟨_, rfl⟩
      have HC := Lib.hid fun (W : World) (hB : Below wr.heap.size wr W) => show (W.cell? ⟨w.heap.size, 0, none⟩ = some (.string s0) ∧ W.cell? ⟨w.heap.size, 1, none⟩ = some (.string s1) ∧ W.cell? ⟨w.heap.size, 2, none⟩ = some (.string s2)) ∧ (W.cell? ⟨w.heap.size + 1, 0, none⟩ = some (.pointer p0) ∧ W.cell? ⟨w.heap.size + 1, 1, none⟩ = some (.pointer p1) ∧ W.cell? ⟨w.heap.size + 1, 2, none⟩ = some (.pointer p2)) from
        ⟨(hs.later K hB).str, (hs.later K hB).ptr⟩
      have HJ1 := Lib.hid fun (W : World) (p q : Option Addr) (hp : R W p a) (hq : R W q b) => K.join_ok hp hq (by omega)
      have HJ2 := Lib.hid fun (W : World) (p q : Option Addr) (hp : R W p (a ++ b)) (hq : R W q c) => by
        have h := K.join_ok hp hq (by rw [List.length_append]; omega)
        rw [← eL] at h
        exact h
      have HJ3 := Lib.hid fun (W : World) (p q : Option Addr) (hp : R W p b) (hq : R W q c) => K.join_ok hp hq (by omega)
      have HJ4 := Lib.hid fun (W : World) (p q : Option Addr) (hp : R W p a) (hq : R W q (b ++ c)) => by
        have h := K.join_ok hp hq (by rw [List.length_append]; omega)
        rw [eL2] at h
        exact h
      have HIX := Lib.hid fun (W : World) (p : Option Addr) (hp : R W p L) => by
        have h := K.index_is n hp HN.out
        rw [exd] at h
        exact h
      have HLN := Lib.hid fun (W : World) (p : Option Addr) (hp : R W p L) => by
        have h := K.line_is n hp HN.out
        unfold LineIs at h
        simp only [eln, ← eT0] at h
        exact h
      have HTX := Lib.hid fun (W : World) (p : Option Addr) (hp : R W p L) => by
        have h := K.text_is hp
        rw [eT] at h
        exact h
      have HLS := Lib.hid fun (W : World) (p : Option Addr) (hp : R W p L) => by
        have h := K.lines_is hp
        rw [← eN] at h
        exact h
      have z1 : ((s0 ++ s1 ++ s2).toList == (s0 ++ s1 ++ s2).toList) = true := by simp
      have z2 : (T.toList == T.toList) = true := by simp
      obtain ⟨_, c0, c1, c2⟩ := HC.out wr (Below.refl _ _)
      have HK0 := Lib.hid ((((KeptR.start (R := R) wr).more (hs.r0 (by omega))).more (hs.r1 (by omega))).more (hs.r2 (by omega)))
      have HB0 := Lib.hid hs.below
      clear hs ea eb ec hla hlb hlc eL eL2 eT exd eln eT0 eN l0 l1 l2
      go_wp2_with fail
      go_at_call 11
      (with_reducible refine (HJ1.out _ _ _ (HK0.out.is (by simp)) (HK0.out.is (by simp))).mono ?_)
      rintro e v1 ⟨x1, rfl, hr, hb⟩
      have HK1 := Lib.hid (HK0.out.made K hr hb)
      clear hr hb c0 c1 c2
      obtain ⟨_, c0, c1, c2⟩ := HC.out v1 HK1.out.1
      go_wp2_with fail
      go_at_call 11
      (with_reducible refine (HJ2.out _ _ _ (HK1.out.is (by simp)) (HK1.out.is (by simp))).mono ?_)
      rintro e v2 ⟨x2, rfl, hr, hb⟩
      have HK2 := Lib.hid (HK1.out.made K hr hb)
      clear hr hb c0 c1 c2
      obtain ⟨_, c0, c1, c2⟩ := HC.out v2 HK2.out.1
      go_wp2_with fail
      go_at_call 11
      (with_reducible refine (HJ3.out _ _ _ (HK2.out.is (by simp)) (HK2.out.is (by simp))).mono ?_)
      rintro e v3 ⟨x3, rfl, hr, hb⟩
      have HK3 := Lib.hid (HK2.out.made K hr hb)
      clear hr hb c0 c1 c2
      obtain ⟨_, c0, c1, c2⟩ := HC.out v3 HK3.out.1
      go_wp2_with fail
      go_at_call 11
      (with_reducible refine (HJ4.out _ _ _ (HK3.out.is (by simp)) (HK3.out.is (by simp))).mono ?_)
      rintro e v4 ⟨x4, rfl, hr, hb⟩
      have HK4 := Lib.hid (HK3.out.made K hr hb)
      clear hr hb c0 c1 c2
      go_wp2_with fail
      go_at_call 20
      (with_reducible refine (HIX.out _ _ (HK4.out.is (by simp))).mono ?_)
      rintro e v5 ⟨rfl, hb⟩
      have HK5 := Lib.hid (HK4.out.later K hb)
      clear hb
      go_wp2_with fail
      go_at_call 20
      (with_reducible refine (HIX.out _ _ (HK5.out.is (by simp))).mono ?_)
      rintro e v6 ⟨rfl, hb⟩
      have HK6 := Lib.hid (HK5.out.later K hb)
      clear hb
      go_wp2_with fail
      go_at_call 17
      (with_reducible refine (HLN.out _ _ (HK6.out.is (by simp))).mono ?_)
      rintro e v7 ⟨rfl, hb⟩
      have HK7 := Lib.hid (HK6.out.later K hb)
      clear hb
      go_wp2_with fail
      go_at_call 17
      (with_reducible refine (HLN.out _ _ (HK7.out.is (by simp))).mono ?_)
      rintro e v8 ⟨rfl, hb⟩
      have HK8 := Lib.hid (HK7.out.later K hb)
      have HKD := Lib.hid (HK8.out.later K (Below.refl _ _).drew)
      clear hb
      obtain ⟨⟨t0, t1, t2⟩, _⟩ := HC.out v8 HK8.out.1
      go_wp2_with fail
      go_region_held3 (fun wx => wx.cell? ⟨w.heap.size, 0, none⟩ = some (.string s0) ∧ wx.cell? ⟨w.heap.size, 1, none⟩ = some (.string s1) ∧ wx.cell? ⟨w.heap.size, 2, none⟩ = some (.string s2))
        ((first | assumption | exact ⟨t0, t1, t2⟩ | exact (HC.out _ HL1.out.1).1 | exact (HC.out _ HL2.out.1).1 | exact (HC.out _ HL3.out.1).1 | exact (HC.out _ HL4.out.1).1 | exact (HC.out _ HL5.out.1).1 | exact (HC.out _ HL6.out.1).1))
        (first
          | (go_at_call 15; (with_reducible refine (HAL.out _).mono ?_); rintro e y1 ⟨rfl, hb⟩; have HL1 := Lib.hid (HKD.out.later K hb); clear hb)
          | (go_at_call 19; (with_reducible refine (HTX.out _ _ (HL1.out.is (p := x2) (by simp))).mono ?_); rintro e y2 ⟨rfl, hb⟩; have HL2 := Lib.hid (HL1.out.later K hb); clear hb)
          | (go_at_call 19; (with_reducible refine (HTX.out _ _ (HL2.out.is (p := x4) (by simp))).mono ?_); rintro e y3 ⟨rfl, hb⟩; have HL3 := Lib.hid (HL2.out.later K hb); clear hb)
          | (go_at_call 19; (with_reducible refine (HTX.out _ _ (HL3.out.is (p := x2) (by simp))).mono ?_); rintro e y4 ⟨rfl, hb⟩; have HL4 := Lib.hid (HL3.out.later K hb); clear hb)
          | (go_at_call 16; (with_reducible refine (HLS.out _ _ (HL4.out.is (p := x2) (by simp))).mono ?_); rintro e y5 ⟨rfl, hb⟩; have HL5 := Lib.hid (HL4.out.later K hb); clear hb)
          | (go_at_call 16; (with_reducible refine (HLS.out _ _ (HL5.out.is (p := x4) (by simp))).mono ?_); rintro e y6 ⟨rfl, hb⟩; have HL6 := Lib.hid (HL5.out.later K hb); clear hb))
      go_wp2_with fail
      go_ret
      exact ⟨rfl, HB0.out.trans (HL6.out.1.mono HB0.out.size)⟩
end
end Go.Proofs.Ytfibclaojdoonaa

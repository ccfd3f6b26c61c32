/-
  What a package of ropes must do, said of any of them: R tells of a rope in memory which text it has. Behind it: the live question and the law's alike, of any such package. Condition: the package's calls do what is said here.
-/
import Derived.Test.YtfibclaojdoonaaRline
import Derived.Deep.QuietTactic
import Derived.BigQuiet
import Derived.Deep.CutRange
namespace Go.Proofs.Ytfibclaojdoonaa
open Go.RowKit Go.Deep

def TrueIs (w : World) (e : Ending) (w' : World) : Prop := e = .returned (.bool true) ∧ Below w.heap.size w w'
def RopeMade (R : World → Option Addr → List UInt8 → Prop) (l : List UInt8) (w : World) (e : Ending) (w' : World) : Prop := ∃ p, e = .returned (.tuple #[.pointer p, .int .i64 0]) ∧ R w' p l ∧ Below w.heap.size w w'
def RopeErr (c : Int) (w : World) (e : Ending) (w' : World) : Prop := ∃ p, e = .returned (.tuple #[.pointer p, .int .i64 c]) ∧ Below w.heap.size w w'
def Answers (v : Value) (w : World) (e : Ending) (w' : World) : Prop := e = .returned v ∧ Below w.heap.size w w'
def indexAns (l : List UInt8) (n : Int) : UInt8 × Int := if 0 ≤ n then match l[n.toNat]? with
    | some c => (c, 0)
    | none => (0, 61)
  else (0, 61)
structure RopeApi (R : World → Option Addr → List UInt8 → Prop) : Prop where
  below : ∀ {w w' p l}, R w p l → Below w.heap.size w w' → R w' p l
  len : ∀ {w p l}, R w p l → l.length ≤ 65536
  nil : ∀ w, R w none []
  lt : ∀ {w p l}, R w p l → ∀ a, p = some a → a.block < w.heap.size
  of_ok : ∀ (l : List UInt8) (s : ByteArray) (w : World), s = txt l → l.length ≤ 65536 → Calls Try.prog 9 #[.string s] w (RopeMade R l w)
  of_no : ∀ (l : List UInt8) (s : ByteArray) (w : World), s = txt l → 65536 < l.length → l.length ≤ 281474976710656 → Calls Try.prog 9 #[.string s] w (RopeErr 73 w)
  join_ok : ∀ {w p q a b}, R w p a → R w q b → a.length + b.length ≤ 65536 → Calls Try.prog 11 #[.pointer p, .pointer q] w (RopeMade R (a ++ b) w)
  join_no : ∀ {w p q a b}, R w p a → R w q b → 65536 < a.length + b.length → Calls Try.prog 11 #[.pointer p, .pointer q] w (RopeErr 73 w)
  cut_ok : ∀ {w p l} (a b : Nat), R w p l → a ≤ b → b ≤ l.length → Calls Try.prog 12 #[.pointer p, .int .i64 (a : Int), .int .i64 (b : Int)] w (RopeMade R ((l.take b).drop a) w)
  cut_no : ∀ {w p l} (a b : Int), R w p l → (Lit.int .i64 a).wf = true → (Lit.int .i64 b).wf = true → ¬ CutOk l a b → Calls Try.prog 12 #[.pointer p, .int .i64 a, .int .i64 b] w (RopeErr 61 w)
  len_is : ∀ {w p l}, R w p l → Calls Try.prog 18 #[.pointer p] w (Answers (.int .i64 (l.length : Int)) w)
  text_is : ∀ {w p l}, R w p l → Calls Try.prog 19 #[.pointer p] w (Answers (.string (txt l)) w)
  lines_is : ∀ {w p l}, R w p l → Calls Try.prog 16 #[.pointer p] w (Answers (.int .i64 ((lns l).length : Int)) w)
  line_is : ∀ {w p l} (n : Int), R w p l → (Lit.int .i64 n).wf = true → Calls Try.prog 17 #[.pointer p, .int .i64 n] w (LineIs (lineAns l n) w)
  index_is : ∀ {w p l} (n : Int), R w p l → (Lit.int .i64 n).wf = true → Calls Try.prog 20 #[.pointer p, .int .i64 n] w (Answers (.tuple #[.int .u8 ((indexAns l n).1.toNat : Int), .int .i64 (indexAns l n).2]) w)

section
variable {R : World → Option Addr → List UInt8 → Prop}

set_option maxRecDepth 100000 in
set_option maxHeartbeats 1000000 in
/-- THE LIVE QUESTION. -/
theorem alive_any (K : RopeApi R) (w : World) : Calls Try.prog 15 #[] w (TrueIs w) := by
  have HOF := Lib.hid (K.of_ok [97, 98, 10, 99] ⟨#[97, 98, 10, 99]⟩ w rfl (by decide))
  go_enter Try.func15, Try.ntmps15
  go_wp2_with fail
  go_at_call 9
  (with_reducible refine HOF.out.mono ?_)
  rintro e w1 ⟨p, rfl, hr1, hb1⟩
  have HJ := Lib.hid (K.join_ok hr1 hr1 (by decide))
  have HB1 := Lib.hid hb1
  clear hr1 hb1
  go_wp2_with fail
  go_at_call 11
  (with_reducible refine HJ.out.mono ?_)
  rintro e w2 ⟨q, rfl, hr2, hb2⟩
  have ht := K.text_is hr2
  rw [show txt ([97, 98, 10, 99] ++ [97, 98, 10, 99]) = ⟨#[97, 98, 10, 99, 97, 98, 10, 99]⟩ from rfl] at ht
  have HT := Lib.hid ht
  have HR2 := Lib.hid hr2
  have HB2 := Lib.hid (HB1.out.trans (hb2.mono HB1.out.size))
  clear ht hr2 hb2
  go_wp2_with fail
  go_at_call 19
  (with_reducible refine HT.out.mono ?_)
  rintro e w3 ⟨rfl, hb3⟩
  have hl := K.lines_is (K.below HR2.out hb3)
  rw [show ((lns ([97, 98, 10, 99] ++ [97, 98, 10, 99])).length : Int) = 3 from by decide] at hl
  have HL := Lib.hid hl
  have HR3 := Lib.hid (K.below HR2.out hb3)
  have HB3 := Lib.hid (HB2.out.trans (hb3.mono HB2.out.size))
  clear hl hb3
  go_wp2_with fail
  go_at_call 16
  (with_reducible refine HL.out.mono ?_)
  rintro e w4 ⟨rfl, hb4⟩
  have hn := K.len_is (K.below HR3.out hb4)
  rw [show ((([97, 98, 10, 99] ++ [97, 98, 10, 99] : List UInt8)).length : Int) = 8 from by decide] at hn
  have HN := Lib.hid hn
  have HB4 := Lib.hid (HB3.out.trans (hb4.mono HB3.out.size))
  clear hn hb4
  go_wp2_with fail
  go_at_call 18
  (with_reducible refine HN.out.mono ?_)
  rintro e w5 ⟨rfl, hb5⟩
  have HB5 := Lib.hid (HB4.out.trans (hb5.mono HB4.out.size))
  clear hb5
  go_wp2_with fail
  go_ret
  exact ⟨rfl, HB5.out⟩

set_option maxRecDepth 100000 in
set_option maxHeartbeats 2000000 in
/-- A rope tells what its text does. -/
theorem alike_any (K : RopeApi R) {w : World} {p : Option Addr} {l : List UInt8} (hr : R w p l) (s : ByteArray) (hs : s = txt l) (n : Int) (hn : (Lit.int .i64 n).wf = true) :
    Calls Try.prog 14 #[.pointer p, .string s, .int .i64 n] w (TrueIs w) := by
  have hlen := K.len hr
  have hsz : s.size = l.length := by rw [hs, size_txt]
  obtain ⟨c, d, ecd⟩ : ∃ c d, indexAns l n = (c, d) := ⟨_, _, rfl⟩
  obtain ⟨T0, b, f, eln⟩ : ∃ T0 b f, lineAns l n = (T0, b, f) := ⟨_, _, _, rfl⟩
  obtain ⟨T, eT⟩ : ∃ T, T = txt T0 := ⟨_, rfl⟩
  have HIX := Lib.hid fun (W : World) (hb : Below w.heap.size w W) => K.index_is n (K.below hr hb) hn
  have HLN := Lib.hid fun (W : World) (hb : Below w.heap.size w W) => K.line_is n (K.below hr hb) hn
  have HRL := Lib.hid fun (W : World) => ref_line l s hs n W (by omega) hn
  have HRS := Lib.hid fun (W : World) => ref_lines l s hs W (by omega)
  have HLE := Lib.hid fun (W : World) (hb : Below w.heap.size w W) => K.len_is (K.below hr hb)
  have HTX := Lib.hid fun (W : World) (hb : Below w.heap.size w W) => K.text_is (K.below hr hb)
  have HLS := Lib.hid fun (W : World) (hb : Below w.heap.size w W) => K.lines_is (K.below hr hb)
  unfold LineIs at HLN HRL
  rw [ecd] at HIX
  simp only [eln, ← eT] at HLN HRL
  rw [← hs] at HTX
  rw [← hsz] at HLE
  obtain ⟨nn, enn⟩ : ∃ nn, nn = (lns l).length := ⟨_, rfl⟩
  rw [← enn] at HLS
  have ENN := Lib.hid enn
  have s1 : (s.toList == s.toList) = true := by simp
  have s2 : (T.toList == T.toList) = true := by simp
  have hs64 : (s.size : Int) ≤ 65536 := by omega
  have walk : ∀ W : World, Below w.heap.size w W → True := fun _ _ => trivial
  by_cases hin : 0 ≤ n ∧ n < (s.size : Int)
  · obtain ⟨m, rfl⟩ := Int.eq_ofNat_of_zero_le hin.1
    have hm : m < s.size := by omega
    have hg := txt_get hs m hm
    have hcd : c = s[m] ∧ d = 0 := by
      unfold indexAns at ecd
      rw [if_pos (by omega), Int.toNat_natCast, hg] at ecd
      simp only [Prod.mk.injEq] at ecd
      exact ⟨ecd.1.symm, ecd.2.symm⟩
    obtain ⟨rfl, rfl⟩ := hcd
    have d1 : decide ((m : Int) < (s.size : Int)) = true := by simp; omega
    have d1n : decide (m < s.size) = true := by simp; omega
    have d0 : decide (0 ≤ (m : Int)) = true := by simp
    have hmI : (m : Int) < (s.size : Int) := by omega
    have hm0 : (0 : Int) ≤ (m : Int) := by omega
    clear hr hs hsz hn hin hlen ecd eln eT enn hg walk
    go_enter Try.func14, Try.ntmps14
    go_wp2_with fail
    go_at_call 20
    (with_reducible refine (HIX.out _ (Below.refl _ _)).mono ?_)
    rintro e w1 ⟨rfl, hb1⟩
    have HB1 := Lib.hid hb1
    clear hb1
    go_wp2_with fail
    go_at_call 17
    (with_reducible refine (HLN.out _ HB1.out).mono ?_)
    rintro e w2 ⟨rfl, hb2⟩
    have HB2 := Lib.hid (HB1.out.trans (hb2.mono HB1.out.size))
    clear hb2
    go_wp2_with fail
    go_at_call 26
    (with_reducible refine (HRL.out _).mono ?_)
    rintro e w3 ⟨rfl, hb3⟩
    have HB3 := Lib.hid (HB2.out.trans (hb3.mono HB2.out.size))
    clear hb3
    go_wp2_with fail
    go_at_call 18
    (with_reducible refine (HLE.out _ HB3.out).mono ?_)
    rintro e w4 ⟨rfl, hb4⟩
    have HB4 := Lib.hid (HB3.out.trans (hb4.mono HB3.out.size))
    clear hb4
    go_wp2_with fail
    go_at_call 19
    (with_reducible refine (HTX.out _ HB4.out).mono ?_)
    rintro e w5 ⟨rfl, hb5⟩
    have HB5 := Lib.hid (HB4.out.trans (hb5.mono HB4.out.size))
    clear hb5
    go_wp2_with fail
    go_at_call 16
    (with_reducible refine (HLS.out _ HB5.out).mono ?_)
    rintro e w6 ⟨rfl, hb6⟩
    have HB6 := Lib.hid (HB5.out.trans (hb6.mono HB5.out.size))
    clear hb6
    go_wp2_with fail
    go_at_call 27
    (with_reducible refine (HRS.out _).mono ?_)
    rintro e w7 ⟨v7, rfl, ho7, hb7⟩
    obtain ⟨A7, c7, rfl, _⟩ := ho7.form
    rw [← ENN.out]
    have HB7 := Lib.hid (HB6.out.trans (hb7.mono HB6.out.size))
    clear ho7 hb7
    go_wp2_with fail
    go_ret
    exact ⟨rfl, HB7.out⟩
  · have hcd : c = 0 ∧ d = 61 := by
      unfold indexAns at ecd
      by_cases h0 : 0 ≤ n
      · rw [if_pos h0, List.getElem?_eq_none (by omega)] at ecd
        simp only [Prod.mk.injEq] at ecd
        exact ⟨ecd.1.symm, ecd.2.symm⟩
      · rw [if_neg h0] at ecd
        simp only [Prod.mk.injEq] at ecd
        exact ⟨ecd.1.symm, ecd.2.symm⟩
    obtain ⟨rfl, rfl⟩ := hcd
    rw [show (((0 : UInt8).toNat : Nat) : Int) = 0 from rfl] at HIX
    have HIN := Lib.hid hin
    clear hr hs hsz hn hin hlen ecd eln eT enn walk
    go_enter Try.func14, Try.ntmps14
    go_wp2_with fail
    go_at_call 20
    (with_reducible refine (HIX.out _ (Below.refl _ _)).mono ?_)
    rintro e w1 ⟨rfl, hb1⟩
    have HB1 := Lib.hid hb1
    clear hb1
    go_wp2_with fail
    go_at_call 17
    (with_reducible refine (HLN.out _ HB1.out).mono ?_)
    rintro e w2 ⟨rfl, hb2⟩
    have HB2 := Lib.hid (HB1.out.trans (hb2.mono HB1.out.size))
    clear hb2
    go_wp2_with fail
    go_at_call 26
    (with_reducible refine (HRL.out _).mono ?_)
    rintro e w3 ⟨rfl, hb3⟩
    have HB3 := Lib.hid (HB2.out.trans (hb3.mono HB2.out.size))
    clear hb3
    go_upto_region 4 with fail
    go_cut [15] from 36 to 43 (fun t wx => t = .bool false ∧ w3 = wx)
    case first =>
      by_cases h0 : 0 ≤ n
      · have d0 : decide (0 ≤ n) = true := by simp [h0]
        have d1 : decide (n < (s.size : Int)) = false := by have := HIN.out; simp; omega
        go_wp2_with fail
        go_meet
        exact ⟨rfl, rfl⟩
      · have d0 : decide (0 ≤ n) = false := by simp; omega
        go_wp2_with fail
        go_meet
        exact ⟨rfl, rfl⟩
    case rest =>
      obtain ⟨rfl, rfl⟩ := hcut
      go_wp2_with fail
      go_at_call 18
      (with_reducible refine (HLE.out _ HB3.out).mono ?_)
      rintro e w4 ⟨rfl, hb4⟩
      have HB4 := Lib.hid (HB3.out.trans (hb4.mono HB3.out.size))
      clear hb4
      go_wp2_with fail
      go_at_call 19
      (with_reducible refine (HTX.out _ HB4.out).mono ?_)
      rintro e w5 ⟨rfl, hb5⟩
      have HB5 := Lib.hid (HB4.out.trans (hb5.mono HB4.out.size))
      clear hb5
      go_wp2_with fail
      go_at_call 16
      (with_reducible refine (HLS.out _ HB5.out).mono ?_)
      rintro e w6 ⟨rfl, hb6⟩
      have HB6 := Lib.hid (HB5.out.trans (hb6.mono HB5.out.size))
      clear hb6
      go_wp2_with fail
      go_at_call 27
      (with_reducible refine (HRS.out _).mono ?_)
      rintro e w7 ⟨v7, rfl, ho7, hb7⟩
      obtain ⟨A7, c7, rfl, _⟩ := ho7.form
      rw [← ENN.out]
      have HB7 := Lib.hid (HB6.out.trans (hb7.mono HB6.out.size))
      clear ho7 hb7
      go_wp2_with fail
      go_ret
      exact ⟨rfl, HB7.out⟩
/-- The ropes that a call has made so far, with their texts: all that has turned lies behind w0. -/
def KeptR (R : World → Option Addr → List UInt8 → Prop) (w0 : World) (fs : List (Option Addr × List UInt8)) (W : World) : Prop :=
  Below w0.heap.size w0 W ∧ ∀ f ∈ fs, R W f.1 f.2
theorem KeptR.start (w0 : World) : KeptR R w0 [] w0 := ⟨Below.refl _ _, fun _ h => by cases h⟩
theorem KeptR.later (K : RopeApi R) {w0 W W' : World} {fs} (h : KeptR R w0 fs W) (hb : Below W.heap.size W W') : KeptR R w0 fs W' :=
  ⟨h.1.trans (hb.mono h.1.size), fun f hf => K.below (h.2 f hf) hb⟩
theorem KeptR.more {w0 W : World} {fs} {p l} (h : KeptR R w0 fs W) (hr : R W p l) : KeptR R w0 ((p, l) :: fs) W :=
  ⟨h.1, fun f hf => by
    rcases List.mem_cons.1 hf with rfl | hf
    · exact hr
    · exact h.2 f hf⟩
theorem KeptR.made (K : RopeApi R) {w0 W W' : World} {fs} {p l} (h : KeptR R w0 fs W) (hr : R W' p l) (hb : Below W.heap.size W W') : KeptR R w0 ((p, l) :: fs) W' := (h.later K hb).more hr
theorem KeptR.is {w0 W : World} {fs} {p l} (h : KeptR R w0 fs W) (hm : (p, l) ∈ fs) : R W p l := h.2 _ hm

end
end Go.Proofs.Ytfibclaojdoonaa

/-
  What trees must do for the law of their depth, said of any package of them; behind it the live question. Condition: the package's calls do what is said here.
-/
import Derived.Test.YtmcohbppeabmgaaTargs
namespace Go.Proofs.Ytmcohbppeabmgaa
open Go.RowKit Go.Deep

structure TreeCore (R : World → Option Addr → List UInt8 → Prop) (T : World → Option Addr → List FileM → Prop) : Prop where
  below : ∀ {w w' p fs}, T w p fs → Below w.heap.size w w' → T w' p fs
  nil : ∀ w, T w none []
  rise : ∀ {w p fs}, T w p fs → Rising fs
  paths : ∀ {w p fs}, T w p fs → ∀ f ∈ fs, RightP f.path
  few : ∀ {w p fs}, T w p fs → fs.length ≤ 1024
  right_is : ∀ (s : ByteArray) (w : World), s.size ≤ 281474976710656 → Calls Try.prog 15 #[.string s] w (Answers (.bool (decide (RightP s))) w)
  set_ok : ∀ {w p fs q l} (s : ByteArray) (v : Int) (t : ByteArray), T w p fs → R w q l → t = txt l → RightP s → (dropF fs s).length < 1024 → (Lit.int .i64 v).wf = true → Calls Try.prog 11 #[.pointer p, .string s, .int .i64 v, .pointer q] w (TreeMade T (putF fs ⟨s, v, t⟩) w)
  set_path : ∀ {w p fs q l} (s : ByteArray) (v : Int), T w p fs → R w q l → ¬ RightP s → s.size ≤ 281474976710656 → (Lit.int .i64 v).wf = true → Calls Try.prog 11 #[.pointer p, .string s, .int .i64 v, .pointer q] w (TreeErr 71 w)
  drop_ok : ∀ {w p fs} (s : ByteArray), T w p fs → findF fs s ≠ none → Calls Try.prog 13 #[.pointer p, .string s] w (TreeMade T (dropF fs s) w)
  drop_no : ∀ {w p fs} (s : ByteArray), T w p fs → s.size ≤ 281474976710656 → findF fs s = none → Calls Try.prog 13 #[.pointer p, .string s] w (TreeErr 72 w)
  get_is : ∀ {w p fs} (s : ByteArray), T w p fs → s.size ≤ 281474976710656 → Calls Try.prog 23 #[.pointer p, .string s] w (GetIs R (getF fs s) w)
  version_is : ∀ {w p fs} (s : ByteArray), T w p fs → s.size ≤ 281474976710656 → Calls Try.prog 26 #[.pointer p, .string s] w (Answers (.int .i64 (getF fs s).2.1) w)
  len_is : ∀ {w p fs}, T w p fs → Calls Try.prog 21 #[.pointer p] w (Answers (.int .i64 (fs.length : Int)) w)
  deep_is : ∀ {w p fs}, T w p fs → Calls Try.prog 22 #[.pointer p] w (DeepIs fs w)

section
variable {R : World → Option Addr → List UInt8 → Prop} {T : World → Option Addr → List FileM → Prop}

set_option maxRecDepth 100000 in
set_option maxHeartbeats 2000000 in
/-- THE LIVE QUESTION. -/
theorem alive_core (F : RopeFew R) (K : TreeCore R T) (w : World) : Calls Try.prog 8 #[] w (TrueIs w) := by
  have HOF := Lib.hid (F.of_ok [120] ⟨#[120]⟩ w rfl (by decide))
  go_enter Try.func8, Try.ntmps8
  go_wp2_with fail
  go_at_call 10
  (with_reducible refine HOF.out.mono ?_)
  rintro e w1 ⟨r, rfl, hr1, hb1⟩
  have HS := Lib.hid (K.set_ok ⟨#[97]⟩ 3 (txt [120]) (K.nil w1) hr1 rfl right_a (by decide) (by decide))
  have HB1 := Lib.hid hb1
  clear hr1 hb1
  go_wp2_with fail
  go_at_call 11
  (with_reducible refine HS.out.mono ?_)
  rintro e w2 ⟨t, rfl, ht2, hb2⟩
  rw [show putF [] ⟨⟨#[97]⟩, 3, txt [120]⟩ = [⟨⟨#[97]⟩, 3, txt [120]⟩] from rfl] at ht2
  have hg := K.get_is ⟨#[97]⟩ ht2 (by decide)
  rw [get_a] at hg
  have HG := Lib.hid hg
  have HT2 := Lib.hid ht2
  have HB2 := Lib.hid (HB1.out.trans (hb2.mono HB1.out.size))
  clear ht2 hb2 hg
  go_wp2_with fail
  go_at_call 23
  (with_reducible refine HG.out.mono ?_)
  rintro e w3 ⟨g, l, rfl, hr3, hl, hb3⟩
  have hx := F.text_is hr3
  rw [← hl, show ((txt [120], (3 : Int), true) : ByteArray × Int × Bool).1 = ⟨#[120]⟩ from rfl] at hx
  have HX := Lib.hid hx
  have HT3 := Lib.hid (K.below HT2.out hb3)
  have HB3 := Lib.hid (HB2.out.trans (hb3.mono HB2.out.size))
  clear hr3 hl hb3 hx
  go_wp2_with fail
  go_at_call 25
  (with_reducible refine HX.out.mono ?_)
  rintro e w4 ⟨rfl, hb4⟩
  have HL := Lib.hid (K.len_is (K.below HT3.out hb4))
  have HT4 := Lib.hid (K.below HT3.out hb4)
  have HB4 := Lib.hid (HB3.out.trans (hb4.mono HB3.out.size))
  clear hb4
  go_wp2_with fail
  go_at_call 21
  (with_reducible refine HL.out.mono ?_)
  rintro e w5 ⟨rfl, hb5⟩
  have hv := K.version_is ⟨#[98]⟩ (K.below HT4.out hb5) (by decide)
  rw [get_b] at hv
  have HV := Lib.hid hv
  have HB5 := Lib.hid (HB4.out.trans (hb5.mono HB4.out.size))
  clear hb5 hv
  go_wp2_with fail
  go_at_call 26
  (with_reducible refine HV.out.mono ?_)
  rintro e w6 ⟨rfl, hb6⟩
  have HL6 := Lib.hid (K.len_is (K.nil w6))
  have HB6 := Lib.hid (HB5.out.trans (hb6.mono HB5.out.size))
  clear hb6
  go_wp2_with fail
  go_at_call 21
  (with_reducible refine HL6.out.mono ?_)
  rintro e w7 ⟨rfl, hb7⟩
  have HB7 := Lib.hid (HB6.out.trans (hb7.mono HB6.out.size))
  clear hb7
  go_wp2_with fail
  go_ret
  exact ⟨rfl, HB7.out⟩
end
end Go.Proofs.Ytmcohbppeabmgaa

/-
  What a package of trees must do, said of any of them: T tells of a tree in memory which files it has, R of a rope which text. Behind it: the live question and the law's alike, of any such package. Condition: the package's calls do what is said here.
-/
import Derived.Test.YtcjbhjbjkfgphaaTref5
import Derived.Test.YtcjbhjbjkfgphaaStrs
import Derived.Deep.QuietTactic
import Derived.BigQuiet
import Derived.Deep.CutRange
namespace Go.Proofs.Ytcjbhjbjkfgphaa
open Go.RowKit Go.Deep

def TrueIs (w : World) (e : Ending) (w' : World) : Prop := e = .returned (.bool true) ∧ Below w.heap.size w w'
def Answers (v : Value) (w : World) (e : Ending) (w' : World) : Prop := e = .returned v ∧ Below w.heap.size w w'
def RopeMade (R : World → Option Addr → List UInt8 → Prop) (l : List UInt8) (w : World) (e : Ending) (w' : World) : Prop := ∃ p, e = .returned (.tuple #[.pointer p, .int .i64 0]) ∧ R w' p l ∧ Below w.heap.size w w'
def TreeMade (T : World → Option Addr → List FileM → Prop) (fs : List FileM) (w : World) (e : Ending) (w' : World) : Prop := ∃ p, e = .returned (.tuple #[.pointer p, .int .i64 0]) ∧ T w' p fs ∧ Below w.heap.size w w'
def TreeErr (c : Int) (w : World) (e : Ending) (w' : World) : Prop := ∃ p, e = .returned (.tuple #[.pointer p, .int .i64 c]) ∧ Below w.heap.size w w'
def GetIs (R : World → Option Addr → List UInt8 → Prop) (a : ByteArray × Int × Bool) (w : World) (e : Ending) (w' : World) : Prop := ∃ q l, e = .returned (.tuple #[.pointer q, .int .i64 a.2.1, .bool a.2.2]) ∧ R w' q l ∧ a.1 = txt l ∧ Below w.heap.size w w'
/-- What Get answers: text, version, and whether there is one. -/
def getF (fs : List FileM) (p : ByteArray) : ByteArray × Int × Bool := match fs.find? (fun f => decide (f.path = p)) with
  | some f => (f.text, f.ver, true)
  | none => (⟨#[]⟩, 0, false)
def between (a b p : ByteArray) : Bool := !pless p a && pless p b
def FilesNew (fs : List FileM) (w : World) (e : Ending) (w' : World) : Prop := ∃ v, e = .returned v ∧ FilesOwn w' w.heap.size v fs ∧ Below w.heap.size w w'
def StrsNew (ls : List (List UInt8)) (w : World) (e : Ending) (w' : World) : Prop := ∃ v, e = .returned v ∧ StrsOwn w' w.heap.size v ls ∧ Below w.heap.size w w'
def DeepIs (fs : List FileM) (w : World) (e : Ending) (w' : World) : Prop := ∃ d : Nat, e = .returned (.int .i64 (d : Int)) ∧ 2 ^ d ≤ 2 * (fs.length + 1) ∧ (d = 0 ↔ fs = []) ∧ Below w.heap.size w w'

/-- What trees want of ropes. -/
structure RopeFew (R : World → Option Addr → List UInt8 → Prop) : Prop where
  below : ∀ {w w' p l}, R w p l → Below w.heap.size w w' → R w' p l
  nil : ∀ w, R w none []
  of_ok : ∀ (l : List UInt8) (s : ByteArray) (w : World), s = txt l → l.length ≤ 65536 → Calls Try.prog 9 #[.string s] w (RopeMade R l w)
  text_is : ∀ {w p l}, R w p l → Calls Try.prog 23 #[.pointer p] w (Answers (.string (txt l)) w)
structure TreeApi (R : World → Option Addr → List UInt8 → Prop) (T : World → Option Addr → List FileM → Prop) : Prop where
  below : ∀ {w w' p fs}, T w p fs → Below w.heap.size w w' → T w' p fs
  nil : ∀ w, T w none []
  rise : ∀ {w p fs}, T w p fs → Rising fs
  paths : ∀ {w p fs}, T w p fs → ∀ f ∈ fs, RightP f.path
  few : ∀ {w p fs}, T w p fs → fs.length ≤ 1024
  right_is : ∀ (s : ByteArray) (w : World), s.size ≤ 281474976710656 → Calls Try.prog 14 #[.string s] w (Answers (.bool (decide (RightP s))) w)
  set_ok : ∀ {w p fs q l} (s : ByteArray) (v : Int) (t : ByteArray), T w p fs → R w q l → t = txt l → RightP s → (dropF fs s).length < 1024 → (Lit.int .i64 v).wf = true → Calls Try.prog 10 #[.pointer p, .string s, .int .i64 v, .pointer q] w (TreeMade T (putF fs ⟨s, v, t⟩) w)
  set_path : ∀ {w p fs q l} (s : ByteArray) (v : Int), T w p fs → R w q l → ¬ RightP s → s.size ≤ 281474976710656 → (Lit.int .i64 v).wf = true → Calls Try.prog 10 #[.pointer p, .string s, .int .i64 v, .pointer q] w (TreeErr 71 w)
  drop_ok : ∀ {w p fs} (s : ByteArray), T w p fs → findF fs s ≠ none → Calls Try.prog 12 #[.pointer p, .string s] w (TreeMade T (dropF fs s) w)
  drop_no : ∀ {w p fs} (s : ByteArray), T w p fs → s.size ≤ 281474976710656 → findF fs s = none → Calls Try.prog 12 #[.pointer p, .string s] w (TreeErr 72 w)
  get_is : ∀ {w p fs} (s : ByteArray), T w p fs → s.size ≤ 281474976710656 → Calls Try.prog 21 #[.pointer p, .string s] w (GetIs R (getF fs s) w)
  version_is : ∀ {w p fs} (s : ByteArray), T w p fs → s.size ≤ 281474976710656 → Calls Try.prog 24 #[.pointer p, .string s] w (Answers (.int .i64 (getF fs s).2.1) w)
  len_is : ∀ {w p fs}, T w p fs → Calls Try.prog 20 #[.pointer p] w (Answers (.int .i64 (fs.length : Int)) w)
  files_is : ∀ {w p fs}, T w p fs → Calls Try.prog 18 #[.pointer p] w (FilesNew fs w)
  scan_is : ∀ {w p fs} (a b : ByteArray), T w p fs → a.size ≤ 281474976710656 → b.size ≤ 281474976710656 → Calls Try.prog 19 #[.pointer p, .string a, .string b] w (StrsNew ((fs.filter fun f => between a b f.path).map fun f => f.path.data.toList) w)

section
variable {R : World → Option Addr → List UInt8 → Prop} {T : World → Option Addr → List FileM → Prop}

theorem right_a : RightP ⟨#[97]⟩ := ⟨by decide, by decide, by decide⟩
theorem get_a : getF [⟨⟨#[97]⟩, 3, txt [120]⟩] ⟨#[97]⟩ = (txt [120], 3, true) := by simp [getF]
theorem get_b : getF [⟨⟨#[97]⟩, 3, txt [120]⟩] ⟨#[98]⟩ = (⟨#[]⟩, 0, false) := by simp [getF]

set_option maxRecDepth 100000 in
set_option maxHeartbeats 2000000 in
/-- THE LIVE QUESTION. -/
theorem alive_any (F : RopeFew R) (K : TreeApi R T) (w : World) : Calls Try.prog 7 #[] w (TrueIs w) := by
  have HOF := Lib.hid (F.of_ok [120] ⟨#[120]⟩ w rfl (by decide))
  go_enter Try.func7, Try.ntmps7
  go_wp2_with fail
  go_at_call 9
  (with_reducible refine HOF.out.mono ?_)
  rintro e w1 ⟨r, rfl, hr1, hb1⟩
  have HS := Lib.hid (K.set_ok ⟨#[97]⟩ 3 (txt [120]) (K.nil w1) hr1 rfl right_a (by decide) (by decide))
  have HB1 := Lib.hid hb1
  clear hr1 hb1
  go_wp2_with fail
  go_at_call 10
  (with_reducible refine HS.out.mono ?_)
  rintro e w2 ⟨t, rfl, ht2, hb2⟩
  rw [show putF [] ⟨⟨#[97]⟩, 3, txt [120]⟩ = [⟨⟨#[97]⟩, 3, txt [120]⟩] from rfl] at ht2
  have hg := K.get_is ⟨#[97]⟩ ht2 (by decide)
  rw [get_a] at hg
  have HG := Lib.hid hg
  have HT2 := Lib.hid ht2
  have HB2 := Lib.hid (HB1.out.trans (hb2.mono HB1.out.size))
  clear ht2 hb2 hg
  go_wp2_with fail
  go_at_call 21
  (with_reducible refine HG.out.mono ?_)
  rintro e w3 ⟨g, l, rfl, hr3, hl, hb3⟩
  have hx := F.text_is hr3
  rw [← hl, show ((txt [120], (3 : Int), true) : ByteArray × Int × Bool).1 = ⟨#[120]⟩ from rfl] at hx
  have HX := Lib.hid hx
  have HT3 := Lib.hid (K.below HT2.out hb3)
  have HB3 := Lib.hid (HB2.out.trans (hb3.mono HB2.out.size))
  clear hr3 hl hb3 hx
  go_wp2_with fail
  go_at_call 23
  (with_reducible refine HX.out.mono ?_)
  rintro e w4 ⟨rfl, hb4⟩
  have HL := Lib.hid (K.len_is (K.below HT3.out hb4))
  have HT4 := Lib.hid (K.below HT3.out hb4)
  have HB4 := Lib.hid (HB3.out.trans (hb4.mono HB3.out.size))
  clear hb4
  go_wp2_with fail
  go_at_call 20
  (with_reducible refine HL.out.mono ?_)
  rintro e w5 ⟨rfl, hb5⟩
  have hv := K.version_is ⟨#[98]⟩ (K.below HT4.out hb5) (by decide)
  rw [get_b] at hv
  have HV := Lib.hid hv
  have HB5 := Lib.hid (HB4.out.trans (hb5.mono HB4.out.size))
  clear hb5 hv
  go_wp2_with fail
  go_at_call 24
  (with_reducible refine HV.out.mono ?_)
  rintro e w6 ⟨rfl, hb6⟩
  have HL6 := Lib.hid (K.len_is (K.nil w6))
  have HB6 := Lib.hid (HB5.out.trans (hb6.mono HB5.out.size))
  clear hb6
  go_wp2_with fail
  go_at_call 20
  (with_reducible refine HL6.out.mono ?_)
  rintro e w7 ⟨rfl, hb7⟩
  have HB7 := Lib.hid (HB6.out.trans (hb7.mono HB6.out.size))
  clear hb7
  go_wp2_with fail
  go_ret
  exact ⟨rfl, HB7.out⟩
end
end Go.Proofs.Ytcjbhjbjkfgphaa

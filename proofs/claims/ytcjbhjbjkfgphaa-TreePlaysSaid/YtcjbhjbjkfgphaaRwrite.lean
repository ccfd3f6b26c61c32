/-
  The contracts of (*strings.Builder).WriteString and strings.Clone at this program: the library's own, told at its numbers. No condition but the library's own.
-/
import Derived.Shelf.Strings.BuilderK
import Derived.Test.YtcjbhjbjkfgphaaShelf
import Derived.Test.YtcjbhjbjkfgphaaRtree
namespace Go.Proofs.Ytcjbhjbjkfgphaa
open Go.RowKit Go.Deep Go.Shelf

def ren166 : Go.Shelf.Ren := ⟨fun | 166 => 49 | 240 => 62 | 276 => Try.lays165_ren.f 276 | n => n, fun | 70 => 98 | 3 => 3 | 0 => 0 | 4 => 4 | 9 => 9 | 20 => 20 | 72 => 100 | 75 => 106 | 80 => 55 | 37 => 62 | 164 => 126 | 5 => 5 | n => n, fun | n => n⟩
theorem lays166 : Go.Proofs.Lays.n166 Try.prog ren166 := {
  mixed := by kernel_rfl
  f166 := Try.func49.trans (congrArg some (by kernel_rfl))
  f240 := Try.func62.trans (congrArg some (by kernel_rfl))
  f276 := Try.lays165.f276.trans (congrArg some (by kernel_rfl))
  t0 := Try.underlying0
  a0 := Try.isAgg0
  z0 := Try.sizeOf0
  v0 := Try.zeroValue0
  t3 := Try.underlying3
  a3 := Try.isAgg3
  z3 := Try.sizeOf3
  v3 := Try.zeroValue3
  t4 := Try.underlying4
  a4 := Try.isAgg4
  z4 := Try.sizeOf4
  v4 := Try.zeroValue4
  t9 := Try.underlying9
  a9 := Try.isAgg9
  z9 := Try.sizeOf9
  v9 := Try.zeroValue9
  t20 := Try.underlying20
  a20 := Try.isAgg20
  z20 := Try.sizeOf20
  v20 := Try.zeroValue20
  t37 := Try.underlying62
  a37 := Try.isAgg62
  z37 := Try.sizeOf62
  v37 := Try.zeroValue62
  t70 := Try.underlying98
  a70 := Try.isAgg98
  z70 := Try.sizeOf98
  v70 := Try.zeroValue98
  t72 := Try.underlying100
  a72 := Try.isAgg100
  z72 := Try.sizeOf100
  v72 := Try.zeroValue100
  t75 := Try.underlying106
  a75 := Try.isAgg106
  z75 := Try.sizeOf106
  v75 := Try.zeroValue106
  t164 := Try.underlying126
  a164 := Try.isAgg126
  z164 := Try.sizeOf126
  v164 := Try.zeroValue126 }
theorem extra166 : Builder.Extra Try.prog ren166 := {
  sizeBuilder := by kernel_rfl
  liesBuilder := by kernel_rfl
  t5 := Try.underlying5
  a5 := Try.isAgg5
  z5 := Try.sizeOf5
  v5 := Try.zeroValue5
  infoByte := by kernel_rfl
  cellsByte := by kernel_rfl
  sizeByte := by kernel_rfl
  neB5 := by decide }
theorem write_string (B b : Nat) (bs : List Value) (s : ByteArray) (w : World) (h : Lib.IsBuilderF 100 5 B b bs w) (hlen : bs.length + s.size ≤ 140737488355328) (hBw : B ≤ w.heap.size) :
    Calls Try.prog 49 #[.pointer (some ⟨b, 0, none⟩), .string s] w fun e w' => e = .returned (.tuple #[.int .i64 s.size, .nilIface]) ∧ (Lib.BuilderAtF 100 5 B b (.pointer (some ⟨b, 0, none⟩)) (bs ++ Lib.strCells s) w' ∧ Below B w w' ∧ Lib.OthersKept 5 (some b) w w') :=
  Any.Builder_WriteString_k lays166 extra166 B b bs s w h hlen hBw

set_option maxHeartbeats 1000000 in
theorem clone_same (s : ByteArray) (w : World) (hs : s.size ≤ 281474976710656) : Calls Try.prog 26 #[.string s] w fun e w' => e = .returned (.string s) ∧ Below w.heap.size w w' := by
  have H := Lib.hid (Try.stringslite_Clone s w hs)
  clear hs
  go_enter Try.func26, Try.ntmps26
  go_wp2_with fail
  go_at_call 39
  (with_reducible refine H.out.mono ?_)
  rintro e w1 ⟨rfl, hb⟩
  have HB := Lib.hid hb
  clear hb
  go_wp2_with fail
  go_ret
  exact ⟨rfl, HB.out⟩
theorem count_feeds (l : List UInt8) (s : ByteArray) (hs : s = txt l) (w : World) : Calls Try.prog 51 #[.string s, .string ⟨#[10]⟩] w fun e w' => e = .returned (.int .i64 (feeds l : Int)) ∧ w = w' := by
  refine (Try.strings_Count_one s 10 w).mono ?_
  rintro e w' ⟨rfl, rfl⟩
  refine ⟨?_, rfl⟩
  subst hs
  rfl
/-- Where the first line feed lies. -/
theorem indexByte_bh : ∀ (l : List UInt8), 0 < feeds l → Lib.indexByte l 10 = (bh l 1 : Int) - 1 ∧ 0 < bh l 1
  | [], h => by simp [feeds] at h
  | c :: r, h => by
    by_cases hc : c = 10
    · subst hc
      simp [Lib.indexByte, bh, bh_zero]
    · have hf : feeds (c :: r) = feeds r := by simp [feeds, hc]
      rw [hf] at h
      obtain ⟨h1, h2⟩ := indexByte_bh r h
      have e : bh (c :: r) 1 = 1 + bh r 1 := by simp [bh, hc]
      have hcb : (c == 10) = false := by simp [hc]
      have hne : (Lib.indexByte r 10 == -1) = false := by rw [h1]; simp; omega
      rw [e]
      simp only [Lib.indexByte, hcb, hne, Bool.false_eq_true, if_false]
      rw [h1]
      omega
end Go.Proofs.Ytcjbhjbjkfgphaa

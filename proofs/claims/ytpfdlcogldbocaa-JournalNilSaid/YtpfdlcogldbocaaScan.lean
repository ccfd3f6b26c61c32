/-
  Scan of package record, and of the document's answer: the records at the beginning of bytes, in new memory, and the length of their frames. Condition: the bytes lie in memory.
-/
import Derived.Test.YtpfdlcogldbocaaList
namespace Go.Proofs.Ytpfdlcogldbocaa
open Go.RowKit Go.Deep

def ScanNew (b : List UInt8) (w : World) (e : Ending) (w' : World) : Prop :=
  ∃ (v : Value) (ls : List (List UInt8)) (n : Nat), e = .returned (.tuple #[v, .int .i64 (n : Int)]) ∧ IsScan b ls n ∧ ListIs w' w.heap.size v ls ∧ Below w.heap.size w w'

theorem rest_slice {A : Option Addr} {b : List UInt8} {cap k : Nat} {w : World} (hA : BytesAt w A b) (hk : k ≤ b.length) (hl : b.length ≤ cap) (hm : cap ≤ maxLen) :
    ∃ A', (∀ W, (Instr.sliceAt 39 (.slice A b.length cap) (some (.int .i64 (k : Int))) none none).run Try.prog W = .ok (.slice A' (b.drop k).length (cap - k)) W) ∧ BytesAt w A' (b.drop k) := by
  rw [List.length_drop]
  refine ⟨if cap = k then A else A.map (·.add k), fun W => u8_slice_from hk hl hm, ?_⟩
  split
  · have : b.drop k = [] := List.drop_eq_nil_of_le (by omega)
    rw [this]
    exact BytesAt.nil _ _
  · exact hA.drop k

theorem NewBytes.away {l : List UInt8} {w w' : World} {g c base : Nat} {k : Option Nat} (ho : Own w' w.heap.size g l.length c l) (hk : ∀ b, k = some b → b < w.heap.size) (hb : base ≤ w.heap.size) : BytesAway w' (some ⟨g, 0, none⟩) l k base := by
  intro i b hi
  obtain ⟨g', o, e, hc⟩ := ho.bytes i b hi
  cases e
  have := ho.ge
  refine ⟨g, 0, rfl, ⟨?_, by omega⟩, hc⟩
  intro e2
  have := hk g e2.symm
  omega
theorem ListIs.lt {w : World} {base : Nat} {v : Value} {ls : List (List UInt8)} (h : ListIs w base v ls) : ∀ b, v.ownBlock = some b → b < w.heap.size := fun b hb => by
  obtain ⟨vs, h1, _⟩ := h
  exact (World.ownsRow.lt h1 b hb).2

theorem scan_count {b : List UInt8} (h : b.length ≤ 1099511627776) : ∀ ls n, Scanning b ls n → ls.length + 1 ≤ 1099511627776 := fun ls n hs => by
  have h1 := hs.count
  have h2 := hs.1
  omega
theorem scan_none {b : List UInt8} (h : takeE b ≠ 0) : ∀ ls n, Scanning b ls n → ls.length + 1 ≤ 1099511627776 := fun ls n hs => by
  cases ls with
  | nil => simp
  | cons l r =>
    exfalso
    apply h
    have e : b = frame l ++ (frames r ++ b.drop n) := by
      rw [← List.append_assoc, ← frames_cons, ← hs.2.1, List.take_append_drop]
    rw [e]
    exact (take_frame l _ (hs.2.2 l (by simp))).1

def ScanRel (b : List UInt8) (w : World) (v t : Value) (wr : World) : Prop :=
  ∃ (ls : List (List UInt8)) (k : Nat), t = .int .i64 (k : Int) ∧ Scanning b ls k ∧ ListIs wr w.heap.size v ls ∧ Below w.heap.size w wr

set_option maxRecDepth 100000 in
set_option maxHeartbeats 2000000 in
theorem scan_any (A : Option Addr) (b : List UInt8) (cap : Nat) (w : World) (hA : BytesAt w A b) (hl : b.length ≤ cap) (hm : cap ≤ maxLen) (h40 : b.length ≤ 140737488355328) (hct : ∀ ls n, Scanning b ls n → ls.length + 1 ≤ 1099511627776) :
    Calls Try.prog 35 #[.slice A b.length cap] w (ScanNew b w) := by
  have HA := Lib.hid hA
  have HL := Lib.hid hl
  have HM := Lib.hid hm
  obtain ⟨n, en⟩ : ∃ n, n = b.length := ⟨_, rfl⟩
  have EN := Lib.hid en
  rw [← en] at h40 ⊢
  clear hA en hm hl
  go_enter Try.func35, Try.ntmps35
  go_wp2_with fail
  go_loopw [4, 5] (fun v t wr => ScanRel b w v t wr) (fun _ t _ => n - (intOf t).toNat)
  case atStart => exact ⟨[], 0, rfl, Scanning.start b, ListIs.nil _ _, Below.refl _ _⟩
  case round =>
    obtain ⟨ls, k, rfl, hsc, hli, hb⟩ := hrel
    have hkn : k ≤ n := by rw [EN.out]; exact hsc.1
    obtain ⟨A', hs, hA'⟩ := rest_slice (HA.out.below hb) hsc.1 HL.out HM.out
    have hld : (b.drop k).length = n - k := by rw [List.length_drop, EN.out]
    rw [← EN.out, hld] at hs
    have hHL := HL.out
    have hHM := HM.out
    have hEN := EN.out
    by_cases ht : takeE (b.drop k) = 0
    · have htk := take_ok A' (b.drop k) (cap - k) wr hA' (by rw [hld]; omega) (by omega) ht
      obtain ⟨z1, z2, z3, z4⟩ := taken_is ht
      rw [hld] at htk z4
      have hnext := hsc.next ht
      have hcnt := hct _ _ hsc
      unfold TakeNew at htk
      obtain ⟨j, ej⟩ : ∃ j, j = ln (b.drop k) := ⟨_, rfl⟩
      obtain ⟨x, ex⟩ : ∃ x, x = rcd (b.drop k) := ⟨_, rfl⟩
      rw [← ej] at htk hnext z4 z3
      rw [← ex] at htk hnext z3
      have HTK := Lib.hid htk
      have HNX := Lib.hid hnext
      have HLI := Lib.hid hli
      have HB := Lib.hid hb
      have HX := Lib.hid z3
      have hsum : (k : Int) + (7 + (j : Int)) ≤ 140737488355328 := by omega
      have hsum0 : 0 ≤ (k : Int) + (7 + (j : Int)) := by omega
      have hkj : k + (7 + j) ≤ n := by omega
      have HJ : Hid (k < n ∧ ls.length + 1 ≤ 1099511627776) := Lib.hid ⟨by omega, hcnt⟩
      clear htk hnext hli hb ej ex ht z1 z2 z3 hsc hA' hld hHL hHM hEN hcnt
      go_wp2_with fail
      go_at_call 53
      (with_reducible refine (HTK.out).mono ?_)
      rintro e W2 ⟨u, rfl, g2, n2, c2, rfl, hn2, hown2, hb2⟩
      rw [hn2] at hown2
      have haway : BytesAway W2 (some ⟨g2, 0, none⟩) x u4.ownBlock w.heap.size := NewBytes.away hown2 HLI.out.lt HB.out.size
      have HLI2 := Lib.hid (HLI.out.below hb2)
      have HAW := Lib.hid haway
      have HN2 := Lib.hid hn2
      have HB2 := Lib.hid (HB.out.trans (hb2.mono HB.out.size))
      clear hn2 hown2 hb2 haway hs
      go_wp2_with ((refine wpList_append_list 24 x HLI2.out rfl rfl HN2.out HAW.out HJ.out.2 HB2.out.size ?_))
      intro v3 W3 hli3 hgr3 hge3
      have hb3 : Below w.heap.size w W3 := (HB2.out.alloc HB2.out.size _).grown hgr3 (by have := HB2.out.size; simp; omega) hge3
      have HLI3 := Lib.hid hli3
      have HB3 := Lib.hid hb3
      clear hli3 hgr3 hge3 hb3
      go_wp2_with fail
      go_roundw
      case rel => exact ⟨_, k + (7 + j), congrArg (Value.int .i64) (by omega), HNX.out, HLI3.out, HB3.out⟩
      case measure => have := HJ.out.1; simp [intOf]; omega
    · have htk := take_no A' (b.drop k) (cap - k) wr hA' (by rw [hld]; omega) (by omega) ht
      unfold TakeNone at htk
      rw [hld] at htk
      obtain ⟨t, et⟩ : ∃ t, t = takeE (b.drop k) := ⟨_, rfl⟩
      have HD := Lib.hid (hsc.done ht)
      rw [← et] at htk ht
      have HTK := Lib.hid htk
      have HLI := Lib.hid hli
      have HB := Lib.hid hb
      have t0 : ((t : Int) != 0) = true := by simp; omega
      clear htk hli hb et ht hsc hA' hld hHL hHM hEN
      go_wp2_with fail
      go_at_call 53
      (with_reducible refine (HTK.out).mono ?_)
      rintro e W2 ⟨rfl, hb2⟩
      have HLI2 := Lib.hid (HLI.out.below hb2)
      have HB2 := Lib.hid (HB.out.trans (hb2.mono HB.out.size))
      clear hb2 hs
      go_wp2_with fail
      go_ret2
      exact ⟨_, ls, k, rfl, HD.out, HLI2.out, HB2.out⟩

set_option maxRecDepth 100000 in
set_option maxHeartbeats 2000000 in
theorem refScan_any (A : Option Addr) (b : List UInt8) (cap : Nat) (w : World) (hA : BytesAt w A b) (hl : b.length ≤ cap) (hm : cap ≤ maxLen) (h40 : b.length ≤ 140737488355328) (hct : ∀ ls n, Scanning b ls n → ls.length + 1 ≤ 1099511627776) :
    Calls Try.prog 38 #[.slice A b.length cap] w (ScanNew b w) := by
  have HA := Lib.hid hA
  have HL := Lib.hid hl
  have HM := Lib.hid hm
  obtain ⟨n, en⟩ : ∃ n, n = b.length := ⟨_, rfl⟩
  have EN := Lib.hid en
  rw [← en] at h40 ⊢
  clear hA en hm hl
  go_enter Try.func38, Try.ntmps38
  go_wp2_with fail
  go_loopw [4, 5] (fun v t wr => ScanRel b w v t wr) (fun _ t _ => n - (intOf t).toNat)
  case atStart => exact ⟨[], 0, rfl, Scanning.start b, ListIs.nil _ _, Below.refl _ _⟩
  case round =>
    obtain ⟨ls, k, rfl, hsc, hli, hb⟩ := hrel
    have hkn : k ≤ n := by rw [EN.out]; exact hsc.1
    obtain ⟨A', hs, hA'⟩ := rest_slice (HA.out.below hb) hsc.1 HL.out HM.out
    have hld : (b.drop k).length = n - k := by rw [List.length_drop, EN.out]
    rw [← EN.out, hld] at hs
    have hHL := HL.out
    have hHM := HM.out
    have hEN := EN.out
    by_cases hkl : k < n
    case neg =>
      have hkl : ¬ (k : Int) < (n : Int) := by omega
      have hz : b.drop k = [] := List.drop_eq_nil_of_le (by omega)
      have HD := Lib.hid (hsc.done (by rw [hz, takeE_nil]; decide))
      have HLI := Lib.hid hli
      have HB := Lib.hid hb
      clear hli hb hsc hA' hld hHL hHM hEN hs hz
      go_wp2_with fail
      go_ret2
      exact ⟨_, ls, k, rfl, HD.out, HLI.out, HB.out⟩
    case pos =>
    have hkl : (k : Int) < (n : Int) := by omega
    by_cases ht : takeE (b.drop k) = 0
    · have htk := refTake_ok A' (b.drop k) (cap - k) wr hA' (by rw [hld]; omega) (by omega) ht
      obtain ⟨z1, z2, z3, z4⟩ := taken_is ht
      rw [hld] at htk z4
      have hnext := hsc.next ht
      have hcnt := hct _ _ hsc
      unfold TakeNew at htk
      obtain ⟨j, ej⟩ : ∃ j, j = ln (b.drop k) := ⟨_, rfl⟩
      obtain ⟨x, ex⟩ : ∃ x, x = rcd (b.drop k) := ⟨_, rfl⟩
      rw [← ej] at htk hnext z4 z3
      rw [← ex] at htk hnext z3
      have HTK := Lib.hid htk
      have HNX := Lib.hid hnext
      have HLI := Lib.hid hli
      have HB := Lib.hid hb
      have HX := Lib.hid z3
      have hsum : (k : Int) + (7 + (j : Int)) ≤ 140737488355328 := by omega
      have hsum0 : 0 ≤ (k : Int) + (7 + (j : Int)) := by omega
      have hkj : k + (7 + j) ≤ n := by omega
      have HJ : Hid (k < n ∧ ls.length + 1 ≤ 1099511627776) := Lib.hid ⟨by omega, hcnt⟩
      clear htk hnext hli hb ej ex ht z1 z2 z3 hsc hA' hld hHL hHM hEN hcnt
      go_wp2_with fail
      go_at_call 54
      (with_reducible refine (HTK.out).mono ?_)
      rintro e W2 ⟨u, rfl, g2, n2, c2, rfl, hn2, hown2, hb2⟩
      rw [hn2] at hown2
      have haway : BytesAway W2 (some ⟨g2, 0, none⟩) x u4.ownBlock w.heap.size := NewBytes.away hown2 HLI.out.lt HB.out.size
      have HLI2 := Lib.hid (HLI.out.below hb2)
      have HAW := Lib.hid haway
      have HN2 := Lib.hid hn2
      have HB2 := Lib.hid (HB.out.trans (hb2.mono HB.out.size))
      clear hn2 hown2 hb2 haway hs
      go_wp2_with ((refine wpList_append_list 26 x HLI2.out rfl rfl HN2.out HAW.out HJ.out.2 HB2.out.size ?_))
      intro v3 W3 hli3 hgr3 hge3
      have hb3 : Below w.heap.size w W3 := (HB2.out.alloc HB2.out.size _).grown hgr3 (by have := HB2.out.size; simp; omega) hge3
      have HLI3 := Lib.hid hli3
      have HB3 := Lib.hid hb3
      clear hli3 hgr3 hge3 hb3
      go_wp2_with fail
      go_roundw
      case rel => exact ⟨_, k + (7 + j), congrArg (Value.int .i64) (by omega), HNX.out, HLI3.out, HB3.out⟩
      case measure => have := HJ.out.1; simp [intOf]; omega
    · have htk := refTake_no A' (b.drop k) (cap - k) wr hA' (by rw [hld]; omega) (by omega) ht
      unfold TakeNone at htk
      rw [hld] at htk
      obtain ⟨t, et⟩ : ∃ t, t = takeE (b.drop k) := ⟨_, rfl⟩
      have HD := Lib.hid (hsc.done ht)
      rw [← et] at htk ht
      have HTK := Lib.hid htk
      have HLI := Lib.hid hli
      have HB := Lib.hid hb
      have t0 : ((t : Int) != 0) = true := by simp; omega
      clear htk hli hb et ht hsc hA' hld hHL hHM hEN
      go_wp2_with fail
      go_at_call 54
      (with_reducible refine (HTK.out).mono ?_)
      rintro e W2 ⟨rfl, hb2⟩
      have HLI2 := Lib.hid (HLI.out.below hb2)
      have HB2 := Lib.hid (HB.out.trans (hb2.mono HB.out.size))
      clear hb2 hs
      go_wp2_with fail
      go_ret2
      exact ⟨_, ls, k, rfl, HD.out, HLI2.out, HB2.out⟩

/-! ### are two lists one -/
def SameAns (w : World) (e : Ending) (w' : World) : Prop := e = .returned (.bool true) ∧ ∃ N, w' = w.drewN N

set_option maxRecDepth 100000 in
set_option maxHeartbeats 2000000 in
theorem same04_any (A B : Option Addr) (ls : List (List UInt8)) (c1 c2 k : Nat) (w : World) (hA : RowsAt w A ls) (hB : RowsAt w B ls) (hk : k = ls.length) (hm : k ≤ maxLen) :
    Calls Try.prog 23 #[.slice A k c1, .slice B k c2] w (SameAns w) := by
  obtain ⟨T, _, hT⟩ := conv_text
  have HA := Lib.hid hA
  have HB := Lib.hid hB
  have HK := Lib.hid hk
  have HT := Lib.hid hT
  unfold maxLen at hm
  clear hA hB hk hT
  go_enter Try.func23, Try.ntmps23
  go_wp2_with fail
  go_loopw [5] (fun i wr => ∃ j : Nat, i = .int .i64 (j : Int) ∧ j ≤ k ∧ ∃ N, wr = w.drewN N) (fun i _ => k - (intOf i).toNat)
  case atStart => exact ⟨0, rfl, Nat.zero_le _, 0, rfl⟩
  case round =>
    obtain ⟨j, rfl, hj, N, rfl⟩ := hrel
    by_cases hjk : j < k
    · obtain ⟨l, hl⟩ : ∃ l, ls[j]? = some l := ⟨ls[j]'(by have := HK.out; omega), List.getElem?_eq_getElem _⟩
      obtain ⟨g1, o1, B1, d1, rfl, hc1, hb1⟩ := HA.out j l hl
      obtain ⟨g2, o2, B2, d2, rfl, hc2, hb2⟩ := HB.out j l hl
      have q1 : ∀ N, (convert 39 9 (.slice B1 l.length d1)).run Try.prog (w.drewN N) = .ok (.string (T l)) (w.drewN N) := fun N => HT.out l _ B1 d1 (hb1.drewN N)
      have q2 : ∀ N, (convert 39 9 (.slice B2 l.length d2)).run Try.prog (w.drewN N) = .ok (.string (T l)) (w.drewN N) := fun N => HT.out l _ B2 d2 (hb2.drewN N)
      have h1 : ∀ N, (w.drewN N).cell? ⟨g1, o1 + j, none⟩ = some (.slice B1 l.length d1) := fun N => hc1
      have h2 : ∀ N, (w.drewN N).cell? ⟨g2, o2 + j, none⟩ = some (.slice B2 l.length d2) := fun N => hc2
      obtain ⟨S, eS⟩ : ∃ S, S = T l := ⟨_, rfl⟩
      obtain ⟨m, em⟩ : ∃ m, m = l.length := ⟨_, rfl⟩
      rw [← eS, ← em] at q1 q2
      rw [← em] at h1 h2
      clear hc1 hc2 hb1 hb2 eS em hl
      go_wp2_with fail
      go_quiet (fail)
      go_wp2_with fail
      go_roundw
      case rel => exact ⟨j + 1, by go_num, by omega, _, rfl⟩
      case measure => simp [intOf]; omega
    · go_wp2_with fail
      go_ret
      exact ⟨rfl, N, rfl⟩
end Go.Proofs.Ytpfdlcogldbocaa

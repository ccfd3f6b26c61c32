/-
  The walk of FletcherSums: it returns true and touches nothing that was there. Condition: the bytes lie in memory.
-/
import Derived.Test.YtnlckhdfeefjlaaPieces
namespace Go.Proofs.Ytnlckhdfeefjlaa
open Go.RowKit

/-- The text of some bytes. -/
def textOf (l : List UInt8) : ByteArray := (bytesV l).foldl (fun r v => match v with | .int _ n => r.push (UInt8.ofNat n.toNat) | _ => r) ByteArray.empty
theorem conv_bytes {w : World} {A : Option Addr} {l : List UInt8} (h : BytesAt w A l) (cap : Nat) :
    ∃ S : ByteArray, ∀ (w2 : World) (A2 : Option Addr) (c2 : Nat), BytesAt w2 A2 l → (convert 22 9 (.slice A2 l.length c2)).run Try.prog w2 = .ok (.string S) w2 := by
  have _ := h
  have _ := cap
  refine ⟨(l.map fun b => (b.toNat : Int)).foldl (fun r n => r.push (UInt8.ofNat n.toNat)) ByteArray.empty, fun w2 A2 c2 hb => ?_⟩
  rw [run_convert_bytes_string w2 22 9 5 A2 l.length c2 Try.underlying22 Try.underlying5 Try.underlying9]
  cases A2 with
  | none =>
    have : l = [] := by
      cases l with
      | nil => rfl
      | cons b r =>
        obtain ⟨g, o, e, _⟩ := hb 0 b rfl
        cases e
    subst this
    simp [Conv.bytesToString]
  | some a =>
    have hl : (loadCells a l.length).run Try.prog w2 = .ok ((l.map fun b => (b.toNat : Int)).map (Value.int .u8)).toArray w2 := by
      have := run_loadCells_list (P := Try.prog) w2 a ((l.map fun b => (b.toNat : Int)).map (Value.int .u8)) (fun j v hj => by
        obtain ⟨hjl, he⟩ := List.getElem?_eq_some_iff.1 hj
        simp only [List.length_map] at hjl
        obtain ⟨g, o, e, hc⟩ := hb j l[j] (List.getElem?_eq_getElem hjl)
        cases e
        rw [Addr.add_mid, hc, ← he]
        simp [byteV])
      simpa using this
    rw [run_bytesToString w2 a l.length c2 (l.map fun b => (b.toNat : Int)) hl]

set_option maxRecDepth 100000 in
set_option maxHeartbeats 1000000 in
theorem sums_in (A : Option Addr) (l : List UInt8) (cap : Nat) (s : Nat) (w : World) (hA : BytesAt w A l) (la : l.length ≤ 5000) (hs : s < 4294967296) :
    Calls Try.prog 3 #[.slice A l.length cap, .int .u32 s] w fun e w' => e = .returned (.bool true) ∧ Below w.heap.size w w' := by
  have hb0 : Below w.heap.size w (w.alloc (.cells #[] 5)) := (Below.refl _ _).alloc (Nat.le_refl _) _
  have h1 := run_append_bytes (Own.start w) A l cap (hA.below hb0) (by omega) (by simp)
  simp only [Nat.zero_add, List.nil_append] at h1
  obtain ⟨g1, c1, W1, hap1, hown1, hgr1⟩ := h1
  have hb1 : Below w.heap.size w W1 := hb0.grown hgr1 (by simp) (fun k hk => by injection hk with hk; omega)
  have hba : Below W1.heap.size W1 (W1.alloc (.cells #[.int .u8 77] 5)) := (Below.refl _ _).alloc (Nat.le_refl _) _
  have hb1' : Below w.heap.size w (W1.alloc (.cells #[.int .u8 77] 5)) := hb1.alloc hb1.size _
  have h77 : BytesAt (W1.alloc (.cells #[.int .u8 77] 5)) (some ⟨W1.heap.size, 0, none⟩) [77] := by
    refine BytesAt.of_range fun i v hv => ?_
    rw [World.cell?_alloc_mark, Nat.zero_add, ← hv]
    show (bytesV [77]).toArray[i]? = _
    simp
  have h2 := run_append_bytes (hown1.below hba (Nat.le_refl _)) (some ⟨W1.heap.size, 0, none⟩) [77] 1 h77 (by simp; omega) hb1'.size
  rw [show ([77] : List UInt8).length = 1 from rfl] at h2
  obtain ⟨g2, c2, W2, hap2, hown2, hgr2⟩ := h2
  have hb2 : Below w.heap.size w W2 := hb1'.grown hgr2 hb1'.size (fun k hk => by injection hk with hk; have := hown1.ge; omega)
  have hB2 : BytesAt W2 (some ⟨g2, 0, none⟩) l := fun i b hi => hown2.bytes i b (by rw [List.getElem?_append_left (List.getElem?_eq_some_iff.1 hi).1]; exact hi)
  have hc2 : l.length + 1 ≤ c2 := by
    rcases hown2.1.2 with ⟨h', _⟩ | ⟨g', cap', cur, h', _, _, hnc, _⟩
    · simp at h'
    · simp only [Value.slice.injEq, Option.some.injEq, Addr.mk.injEq, and_true, true_and] at h'
      rw [h'.2]; exact hnc
  have hc2m : c2 ≤ maxLen := by
    rcases hown2.1.2 with ⟨h', _⟩ | ⟨g', cap', cur, h', _, _, _, hm, _⟩
    · simp at h'
    · simp only [Value.slice.injEq, Option.some.injEq, Addr.mk.injEq, and_true, true_and] at h'
      rw [h'.2]; exact hm
  unfold maxLen at hc2m
  obtain ⟨n, en⟩ : ∃ n, n = l.length := ⟨_, rfl⟩
  obtain ⟨r1, er1⟩ : ∃ r, r = more 1 l := ⟨_, rfl⟩
  obtain ⟨r2, er2⟩ : ∃ r, r = more s l := ⟨_, rfl⟩
  obtain ⟨S, hS⟩ := conv_bytes hA cap
  have HM : l.length ≤ maxLen := by unfold maxLen; omega
  have H1 := Lib.hid fun w2 (hb : Below W2.heap.size W2 w2) => sum_any (some ⟨g2, 0, none⟩) l c2 w2 (hB2.below hb) HM
  have H2 := Lib.hid fun w2 (hb : Below w.heap.size w w2) => refSum_any A l cap w2 (hA.below hb) HM
  have H3 := Lib.hid fun w2 (hb : Below W2.heap.size W2 w2) => more_any s hs (some ⟨g2, 0, none⟩) l c2 w2 (hB2.below hb) HM
  have H4 := Lib.hid fun w2 (hb : Below w.heap.size w w2) => refMore_any s hs A l cap w2 (hA.below hb) HM
  have H5 := Lib.hid fun w2 (hb : Below W2.heap.size W2 w2) => hS w2 (some ⟨g2, 0, none⟩) c2 (hB2.below hb)
  have H6 := Lib.hid fun w2 (hb : Below w.heap.size w w2) => hS w2 A cap (hA.below hb)
  rw [← er1] at H1 H2
  rw [← er2] at H3 H4
  rw [← en] at H1 H2 H3 H4 H5 H6 hap1 hap2 la hc2
  have HA1 := Lib.hid hap1
  have HA2 := Lib.hid hap2
  have HB2 := Lib.hid hb2
  have re := run_empty
  rw [← en]
  clear hap1 hap2 hown1 hown2 hgr1 hgr2 hb0 hb1 hb1' hb2 hba er1 er2 hA hB2 hS HM h77 en
  go_enter Try.func3, Try.ntmps3
  go_wp2_with (first | refine wpList_append_to 12 HA1.out rfl rfl ?_ | refine wpList_append_to 14 HA2.out rfl rfl ?_)
  go_at_call 7
  (with_reducible refine (alive_any _).mono ?_)
  rintro e w' ⟨rfl, hb4⟩
  have hb5 := HB2.out.trans (hb4.mono HB2.out.size)
  have cv1 := H5.out _ hb4
  have cv2 := H6.out _ hb5
  go_wp2_with fail
  go_at_call 8
  (with_reducible refine (H1.out _ hb4).mono ?_)
  rintro e w' ⟨rfl, rfl⟩
  go_wp2_with fail
  go_at_call 9
  (with_reducible refine (H2.out _ hb5).mono ?_)
  rintro e w' ⟨rfl, rfl⟩
  go_wp2_with fail
  go_at_call 10
  (with_reducible refine (H3.out _ hb4).mono ?_)
  rintro e w' ⟨rfl, rfl⟩
  go_wp2_with fail
  go_at_call 11
  (with_reducible refine (H4.out _ hb5).mono ?_)
  rintro e w' ⟨rfl, rfl⟩
  go_wp2_with fail
  go_ret
  exact ⟨rfl, hb5⟩

set_option maxHeartbeats 400000 in
theorem sums_out (A : Option Addr) (l : List UInt8) (cap : Nat) (s : Nat) (w : World) (hl : l.length ≤ maxLen) (h : 5000 < l.length) :
    Calls Try.prog 3 #[.slice A l.length cap, .int .u32 s] w fun e w' => e = .returned (.bool true) ∧ Below w.heap.size w w' := by
  unfold maxLen at hl
  go_enter Try.func3, Try.ntmps3
  go_wp2_with (go_at_call 7; (with_reducible refine (alive_any _).mono ?_); rintro e w' ⟨rfl, hb2⟩)
  go_ret
  exact ⟨rfl, hb2⟩

theorem sums_any (A : Option Addr) (l : List UInt8) (cap : Nat) (s : Nat) (w : World) (hA : BytesAt w A l) (la : l.length ≤ maxLen) (hs : s < 4294967296) :
    Calls Try.prog 3 #[.slice A l.length cap, .int .u32 s] w fun e w' => e = .returned (.bool true) ∧ Below w.heap.size w w' := by
  by_cases h : 5000 < l.length
  · exact sums_out A l cap s w la h
  · exact sums_in A l cap s w hA (by omega) hs
end Go.Proofs.Ytnlckhdfeefjlaa

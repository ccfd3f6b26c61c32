/-
  Wrap of package record: the frame of any record, in new memory, or the error. Condition: the bytes lie in memory.
  What the document's answer makes of a record: its frame, in new memory, or the error; whether bytes are one; a copy of bytes. Condition: the bytes lie in memory.
-/
import Derived.Test.YtpfdlcogldbocaaCopy
import Derived.Test.YtpfdlcogldbocaaRead
namespace Go.Proofs.Ytpfdlcogldbocaa
open Go.RowKit Go.Deep

theorem run_make_bytes (w : World) (c : Nat) (hc : c ≤ 1099511627776) : ∃ g c' w', (Instr.makeSlice 39 (.int .i64 0) (.int .i64 (c : Int))).run Try.prog w = .ok (.slice (some ⟨g, 0, none⟩) 0 c') w' ∧ Own w' w.heap.size g 0 c' [] ∧ Below w.heap.size w w' := by
  obtain ⟨i, hi, hz, hs, hby⟩ := info_parts info_u8
  obtain ⟨w', h1, h2, h3⟩ := run_make_own (P := Try.prog) w w.heap.size 39 5 i _ 1 Try.underlying39 hi hz hs .i64 .i64 c (by rw [hby]; omega) (by unfold maxLen; omega) (Nat.le_refl _)
  exact ⟨_, _, w', h1, ⟨h2, rfl⟩, (Below.refl _ _).grown h3 (Nat.le_refl _) (fun k hk => by cases hk)⟩

/-- What comes of a call that makes bytes. -/
def NewBytes (l : List UInt8) (w : World) (v : Value) (w' : World) : Prop :=
  ∃ g n c, v = .slice (some ⟨g, 0, none⟩) n c ∧ n = l.length ∧ Own w' w.heap.size g n c l ∧ Below w.heap.size w w'
def WrapNew (l : List UInt8) (w : World) (e : Ending) (w' : World) : Prop :=
  ∃ v, e = .returned (.tuple #[v, .int .i64 0]) ∧ NewBytes (frame l) w v w'

def le4b (s : Nat) (j : Nat) : UInt8 := (le4 s).getD j 0
theorem le4_take (s j : Nat) (h : j < 4) : (le4 s).take j ++ [le4b s j] = (le4 s).take (j + 1) := by
  rw [List.take_succ_eq_append_getElem (by rw [length_le4]; exact h)]
  unfold le4b
  rw [List.getD_eq_getElem?_getD, List.getElem?_eq_getElem (by rw [length_le4]; exact h)]
  rfl

def WrapRel (n s : Nat) (w : World) (k : Int) (v : Value) (wr : World) : Prop :=
  ∃ j g m c : Nat, k = (j : Int) ∧ j ≤ 4 ∧ v = .slice (some ⟨g, 0, none⟩) m c ∧ m = 3 + j ∧ Own wr w.heap.size g m c (hdr n ++ (le4 s).take j) ∧ Below w.heap.size w wr

set_option maxRecDepth 100000 in
set_option maxHeartbeats 2000000 in
theorem wrap_ok (A : Option Addr) (l : List UInt8) (cap : Nat) (w : World) (hA : BytesAt w A l) (hr : RecOk l) :
    Calls Try.prog 41 #[.slice A l.length cap] w (WrapNew l w) := by
  obtain ⟨r1, r2⟩ := hr
  obtain ⟨n, en⟩ : ∃ n, n = l.length := ⟨_, rfl⟩
  obtain ⟨s, es⟩ : ∃ s, s = more 1 (hdr n ++ l) := ⟨_, rfl⟩
  have hs := more_lt 1 (hdr n ++ l)
  rw [← es] at hs
  have EF : Hid (frame l = hdr n ++ le4 s ++ l) := Lib.hid (by rw [es, en]; rfl)
  rw [← en] at r1 r2
  obtain ⟨g1, c1, W1, hmk, hown1, hb1⟩ := run_make_bytes w (7 + n) (by omega)
  rw [show ((7 + n : Nat) : Int) = 7 + (n : Int) by omega] at hmk
  have HA := Lib.hid hA
  have EN := Lib.hid en
  have ES := Lib.hid es
  have HO1 := Lib.hid hown1
  have HB1 := Lib.hid hb1
  rw [← en]
  have h0 : ((n : Int) == 0) = false := by simp; omega
  clear hA en es hown1 hb1
  go_enter Try.func41, Try.ntmps41
  go_wp2_with ((refine wpList_append_lits 30 (hdr n) HO1.out rfl rfl ?_ rfl ?_ HB1.out.size ?_))
  · unfold hdr bytesV byteV
    simp [UInt8.toNat_ofNat']
    omega
  · omega
  intro g2 c2 W2 hown2 hgr2 _
  have hb2 : Below w.heap.size w W2 := (HB1.out.alloc HB1.out.size _).grown hgr2 (by have := HB1.out.size; simp; omega) (fun k hk => by injection hk with hk; have := HO1.out.ge; omega)
  simp only [Nat.zero_add, List.nil_append] at hown2 ⊢
  have HO2 := Lib.hid hown2
  have HB2 := Lib.hid hb2
  have hck := checksum_any (some ⟨g2, 0, none⟩) A (hdr n) l c2 cap W2 hown2.bytes (HA.out.below hb2) (by rw [length_hdr]; decide) (by rw [← EN.out]; unfold maxLen; omega)
  rw [length_hdr, ← EN.out, ← ES.out] at hck
  have HCK := Lib.hid hck
  clear hown2 hgr2 hb2 hck hmk
  go_wp2_with fail
  go_at_call 55
  (with_reducible refine (HCK.out).mono ?_)
  rintro e w' ⟨rfl, rfl⟩
  go_wp2_with fail
  go_loopw [5, 34] (fun v k wr => ∃ k' : Int, k = .int .i64 k' ∧ WrapRel n s w k' v wr) (fun _ k _ => 4 - (intOf k).toNat)
  case atStart => exact ⟨0, rfl, 0, g2, 3, c2, rfl, by omega, rfl, rfl, by simpa using HO2.out, HB2.out⟩
  case round =>
    obtain ⟨k', rfl, j, g, m, c, hk, hj, rfl, hm, hown, hb⟩ := hrel
    have HO := Lib.hid hown
    have HB := Lib.hid hb
    clear hown hb
    have hj5 : j = 0 ∨ j = 1 ∨ j = 2 ∨ j = 3 ∨ j = 4 := by omega
    rcases hj5 with hj5 | hj5 | hj5 | hj5 | hj5
    · subst hj5
      obtain rfl : k' = 0 := by omega
      have HM := Lib.hid hm
      clear hk hm hj
      go_wp2_with ((refine wpList_append_lits 44 [le4b s 0] HO.out rfl rfl ?_ rfl ?_ HB.out.size ?_))
      · unfold bytesV byteV le4b le4
        simp [UInt8.toNat_ofNat']
        try omega
      · have := HM.out; omega
      intro g3 c3 W3 hown3 hgr3 _
      have hb3 : Below w.heap.size w W3 := (HB.out.alloc HB.out.size _).grown hgr3 (by have := HB.out.size; simp; omega) (fun k hk => by injection hk with hk; have := HO.out.ge; omega)
      rw [List.append_assoc, le4_take s 0 (by omega)] at hown3
      have HO3 := Lib.hid hown3
      have HB3 := Lib.hid hb3
      clear hown3 hgr3 hb3
      go_wp2_with fail
      go_roundw
      case rel => exact ⟨1, rfl, 1, g3, m + 1, c3, rfl, by omega, rfl, by have := HM.out; omega, HO3.out, HB3.out⟩
      case measure => simp [intOf]
    · subst hj5
      obtain rfl : k' = 1 := by omega
      have HM := Lib.hid hm
      clear hk hm hj
      go_wp2_with ((refine wpList_append_lits 44 [le4b s 1] HO.out rfl rfl ?_ rfl ?_ HB.out.size ?_))
      · unfold bytesV byteV le4b le4
        simp [UInt8.toNat_ofNat']
        try omega
      · have := HM.out; omega
      intro g3 c3 W3 hown3 hgr3 _
      have hb3 : Below w.heap.size w W3 := (HB.out.alloc HB.out.size _).grown hgr3 (by have := HB.out.size; simp; omega) (fun k hk => by injection hk with hk; have := HO.out.ge; omega)
      rw [List.append_assoc, le4_take s 1 (by omega)] at hown3
      have HO3 := Lib.hid hown3
      have HB3 := Lib.hid hb3
      clear hown3 hgr3 hb3
      go_wp2_with fail
      go_roundw
      case rel => exact ⟨2, rfl, 2, g3, m + 1, c3, rfl, by omega, rfl, by have := HM.out; omega, HO3.out, HB3.out⟩
      case measure => simp [intOf]
    · subst hj5
      obtain rfl : k' = 2 := by omega
      have HM := Lib.hid hm
      clear hk hm hj
      go_wp2_with ((refine wpList_append_lits 44 [le4b s 2] HO.out rfl rfl ?_ rfl ?_ HB.out.size ?_))
      · unfold bytesV byteV le4b le4
        simp [UInt8.toNat_ofNat']
        try omega
      · have := HM.out; omega
      intro g3 c3 W3 hown3 hgr3 _
      have hb3 : Below w.heap.size w W3 := (HB.out.alloc HB.out.size _).grown hgr3 (by have := HB.out.size; simp; omega) (fun k hk => by injection hk with hk; have := HO.out.ge; omega)
      rw [List.append_assoc, le4_take s 2 (by omega)] at hown3
      have HO3 := Lib.hid hown3
      have HB3 := Lib.hid hb3
      clear hown3 hgr3 hb3
      go_wp2_with fail
      go_roundw
      case rel => exact ⟨3, rfl, 3, g3, m + 1, c3, rfl, by omega, rfl, by have := HM.out; omega, HO3.out, HB3.out⟩
      case measure => simp [intOf]
    · subst hj5
      obtain rfl : k' = 3 := by omega
      have HM := Lib.hid hm
      clear hk hm hj
      go_wp2_with ((refine wpList_append_lits 44 [le4b s 3] HO.out rfl rfl ?_ rfl ?_ HB.out.size ?_))
      · unfold bytesV byteV le4b le4
        simp [UInt8.toNat_ofNat']
        try omega
      · have := HM.out; omega
      intro g3 c3 W3 hown3 hgr3 _
      have hb3 : Below w.heap.size w W3 := (HB.out.alloc HB.out.size _).grown hgr3 (by have := HB.out.size; simp; omega) (fun k hk => by injection hk with hk; have := HO.out.ge; omega)
      rw [List.append_assoc, le4_take s 3 (by omega)] at hown3
      have HO3 := Lib.hid hown3
      have HB3 := Lib.hid hb3
      clear hown3 hgr3 hb3
      go_wp2_with fail
      go_roundw
      case rel => exact ⟨4, rfl, 4, g3, m + 1, c3, rfl, by omega, rfl, by have := HM.out; omega, HO3.out, HB3.out⟩
      case measure => simp [intOf]
    · subst hj5
      obtain rfl : k' = 4 := by omega
      have HM := Lib.hid hm
      clear hk hm hj
      go_wp2_with ((refine wpList_append_bytes 48 HO.out (HA.out.below HB.out) EN.out rfl rfl ?_ HB.out.size ?_))
      · have := HM.out; omega
      intro g3 c3 W3 hown3 hgr3 _
      have hb3 : Below w.heap.size w W3 := HB.out.grown hgr3 HB.out.size (fun k hk => by injection hk with hk; have := HO.out.ge; omega)
      rw [List.take_of_length_le (by rw [length_le4]; omega), ← EF.out] at hown3
      have HO3 := Lib.hid hown3
      have HB3 := Lib.hid hb3
      clear hown3 hgr3 hb3
      go_wp2_with fail
      go_ret2
      exact ⟨_, rfl, g3, m + n, c3, rfl, HO3.out.2.symm, HO3.out, HB3.out⟩

/-- .. of no record. -/
theorem wrap_no (A : Option Addr) (l : List UInt8) (cap : Nat) (w : World) (hm : l.length ≤ maxLen) (hr : ¬ RecOk l) :
    Calls Try.prog 41 #[.slice A l.length cap] w fun e w' => e = .returned (.tuple #[.slice none 0 0, .int .i64 1]) ∧ w = w' := by
  obtain ⟨n, en⟩ : ∃ n, n = l.length := ⟨_, rfl⟩
  unfold RecOk at hr
  unfold maxLen at hm
  rw [← en] at hr hm ⊢
  clear en
  by_cases h0 : n = 0
  · subst h0
    clear hr
    go_enter Try.func41, Try.ntmps41
    go_wp2
    go_ret2
    exact ⟨rfl, rfl⟩
  · have h1 : ((n : Int) == 0) = false := by simp; omega
    have h2 : (4096 : Int) < (n : Int) := by omega
    clear hr h0
    go_enter Try.func41, Try.ntmps41
    go_wp2
    go_ret2
    exact ⟨rfl, rfl⟩
end Go.Proofs.Ytpfdlcogldbocaa

namespace Go.Proofs.Ytpfdlcogldbocaa
open Go.RowKit Go.Deep

theorem conv_bytes {w : World} {A : Option Addr} {l : List UInt8} (h : BytesAt w A l) (cap : Nat) :
    ∃ S : ByteArray, ∀ (w2 : World) (A2 : Option Addr) (c2 : Nat), BytesAt w2 A2 l → (convert 39 9 (.slice A2 l.length c2)).run Try.prog w2 = .ok (.string S) w2 := by
  have _ := h
  have _ := cap
  refine ⟨(l.map fun b => (b.toNat : Int)).foldl (fun r n => r.push (UInt8.ofNat n.toNat)) ByteArray.empty, fun w2 A2 c2 hb => ?_⟩
  rw [run_convert_bytes_string w2 39 9 5 A2 l.length c2 Try.underlying39 Try.underlying5 Try.underlying9]
  cases A2 with
  | none =>
    have : l = [] := by
      cases l with
      | nil => rfl
      | cons b r =>
        obtain ⟨g, o, e, _⟩ := hb 0 b rfl
        cases e
    subst this
    simp [Conv.bytesToString]
  | some a =>
    have hl : (loadCells a l.length).run Try.prog w2 = .ok ((l.map fun b => (b.toNat : Int)).map (Value.int .u8)).toArray w2 := by
      have := run_loadCells_list (P := Try.prog) w2 a ((l.map fun b => (b.toNat : Int)).map (Value.int .u8)) (fun j v hj => by
        obtain ⟨hjl, he⟩ := List.getElem?_eq_some_iff.1 hj
        simp only [List.length_map] at hjl
        obtain ⟨g, o, e, hc⟩ := hb j l[j] (List.getElem?_eq_getElem hjl)
        cases e
        rw [Addr.add_mid, hc, ← he]
        simp [byteV])
      simpa using this
    rw [run_bytesToString w2 a l.length c2 (l.map fun b => (b.toNat : Int)) hl]


theorem same_any (A B : Option Addr) (l : List UInt8) (c1 c2 k : Nat) (w : World) (hA : BytesAt w A l) (hB : BytesAt w B l) (hk : k = l.length) :
    Calls Try.prog 29 #[.slice A k c1, .slice B k c2] w fun e w' => e = .returned (.bool true) ∧ w = w' := by
  obtain ⟨S, hS⟩ := conv_bytes hA c1
  have q1 := hS w A c1 hA
  have q2 := hS w B c2 hB
  rw [← hk] at q1 q2
  clear hA hB hS hk
  go_enter Try.func29, Try.ntmps29
  go_wp2
  go_ret
  exact ⟨rfl, rfl⟩

theorem Own.weaken {w : World} {base b g n c : Nat} {l : List UInt8} (h : Own w base g n c l) (hb : b ≤ base) : Own w b g n c l := by
  refine ⟨⟨h.1.1, ?_⟩, h.2⟩
  rcases h.1.2 with h0 | ⟨g', cap, cur, e, hb2, rest⟩
  · exact .inl h0
  · exact .inr ⟨g', cap, cur, e, Nat.le_trans hb hb2, rest⟩

def FrameNew (l : List UInt8) (w : World) (e : Ending) (w' : World) : Prop :=
  ∃ v, e = .returned v ∧ NewBytes (frame l) w v w'

set_option maxRecDepth 100000 in
set_option maxHeartbeats 2000000 in
theorem frame_any (A : Option Addr) (l : List UInt8) (cap : Nat) (w : World) (hA : BytesAt w A l) (hr : RecOk l) :
    Calls Try.prog 56 #[.slice A l.length cap] w (FrameNew l w) := by
  obtain ⟨r1, r2⟩ := hr
  obtain ⟨n, en⟩ : ∃ n, n = l.length := ⟨_, rfl⟩
  obtain ⟨s, es⟩ : ∃ s, s = more 1 (hdr n ++ l) := ⟨_, rfl⟩
  have hs := more_lt 1 (hdr n ++ l)
  rw [← es] at hs
  have EF : Hid (frame l = hdr n ++ le4 s ++ l) := Lib.hid (by rw [es, en]; rfl)
  rw [← en] at r1 r2
  have HA := Lib.hid hA
  have EN := Lib.hid en
  have ES := Lib.hid es
  rw [← en]
  have re := run_empty
  clear hA en es
  go_enter Try.func56, Try.ntmps56
  go_wp2_with ((refine wpList_append_bytes (k := 3) 19 (Own.start' _ _ (by simp)) ((BytesAt.lit (l := hdr n) ?_).alloc _) rfl rfl rfl ?_ (by simp) ?_))
  · unfold hdr bytesV byteV
    simp [UInt8.toNat_ofNat']
    omega
  · omega
  intro g1 c1 W1 hown1 hgr1 _
  have hh1 : BytesAt W1 (some ⟨w.heap.size, 0, none⟩) (hdr n) := BytesAt.kept ((BytesAt.lit (by
    unfold hdr bytesV byteV
    simp [UInt8.toNat_ofNat']
    omega)).alloc _) hgr1 (fun a e => by injection e with e; subst e; simp)
  have hb1 : Below w.heap.size w W1 := (((Below.refl _ w).alloc (Nat.le_refl _) _).alloc (by simp) _).grown hgr1 (by simp; omega) (fun k hk => by injection hk with hk; omega)
  have hsz1 : w.heap.size + 1 ≤ g1 := by have := hown1.ge; simpa using this
  have hown1 := hown1.weaken (b := w.heap.size) (by simp)
  simp only [Nat.zero_add, List.nil_append] at hown1 ⊢
  have HO1 := Lib.hid hown1
  have HB1 := Lib.hid hb1
  have HH1 := Lib.hid hh1
  clear hown1 hb1 hgr1 hh1
  go_wp2_with ((refine wpList_append_bytes (k := n) 21 HO1.out (HA.out.below HB1.out) EN.out rfl rfl ?_ HB1.out.size ?_))
  · omega
  intro g2 c2 W2 hown2 hgr2 hg2
  have hh2 : BytesAt W2 (some ⟨w.heap.size, 0, none⟩) (hdr n) := BytesAt.kept HH1.out hgr2 (fun a e => by injection e with e; subst e; simp; omega)
  have hb2 : Below w.heap.size w W2 := HB1.out.grown hgr2 HB1.out.size (fun k hk => by injection hk with hk; omega)
  have hall : BytesAt W2 (some ⟨g2, 0, none⟩) (hdr n ++ l) := hown2.bytes
  have hck := refSum_any (some ⟨g2, 0, none⟩) (hdr n ++ l) c2 W2 hall (by rw [List.length_append, length_hdr, ← EN.out]; unfold maxLen; omega)
  rw [List.length_append, length_hdr, ← EN.out, ← ES.out] at hck
  have HCK := Lib.hid hck
  have HB2 := Lib.hid hb2
  have HH2 := Lib.hid hh2
  have hsz2 : w.heap.size < W2.heap.size := by
    have := hown2.lt
    have := HB1.out.size
    omega
  clear hown2 hb2 hgr2 hh2 hck hall
  go_wp2_with fail
  go_at_call 62
  (with_reducible refine (HCK.out).mono ?_)
  rintro e w' ⟨rfl, rfl⟩
  go_wp2_with ((refine wpList_append_bytes (k := 3) 26 (Own.start' _ _ rfl) (HH2.out.alloc _) rfl rfl rfl ?_ (by simp) ?_))
  · omega
  intro g3 c3 W3 hown3 hgr3 _
  have hb3 : Below w.heap.size w W3 := (HB2.out.alloc HB2.out.size _).grown hgr3 (by simp; omega) (fun k hk => by injection hk with hk; omega)
  have hown3 := hown3.weaken (b := w.heap.size) (by omega)
  simp only [Nat.zero_add, List.nil_append] at hown3 ⊢
  have HO3 := Lib.hid hown3
  have HB3 := Lib.hid hb3
  clear hown3 hb3 hgr3
  go_wp2_with ((refine wpList_append_lits 40 (le4 s) HO3.out rfl rfl ?_ rfl ?_ HB3.out.size ?_))
  · unfold bytesV byteV le4
    simp [UInt8.toNat_ofNat']
    try omega
  · omega
  intro g4 c4 W4 hown4 hgr4 _
  have hb4 : Below w.heap.size w W4 := (HB3.out.alloc HB3.out.size _).grown hgr4 (by have := HB3.out.size; simp; omega) (fun k hk => by injection hk with hk; have := HO3.out.ge; omega)
  have HO4 := Lib.hid hown4
  have HB4 := Lib.hid hb4
  clear hown4 hb4 hgr4
  go_wp2_with ((refine wpList_append_bytes (k := n) 43 HO4.out (HA.out.below HB4.out) EN.out rfl rfl ?_ HB4.out.size ?_))
  · omega
  intro g5 c5 W5 hown5 hgr5 _
  have hb5 : Below w.heap.size w W5 := HB4.out.grown hgr5 HB4.out.size (fun k hk => by injection hk with hk; have := HO4.out.ge; omega)
  rw [← EF.out] at hown5
  have HO5 := Lib.hid hown5
  have HB5 := Lib.hid hb5
  clear hown5 hb5 hgr5
  go_wp2_with fail
  go_ret
  exact ⟨_, rfl, g5, _, c5, rfl, HO5.out.2.symm, HO5.out, HB5.out⟩

theorem refWrap_ok (A : Option Addr) (l : List UInt8) (cap : Nat) (w : World) (hA : BytesAt w A l) (hr : RecOk l) :
    Calls Try.prog 43 #[.slice A l.length cap] w (WrapNew l w) := by
  have HF := Lib.hid (frame_any A l cap w hA hr)
  obtain ⟨r1, r2⟩ := hr
  obtain ⟨n, en⟩ : ∃ n, n = l.length := ⟨_, rfl⟩
  rw [← en] at r1 r2 HF ⊢
  clear hA en
  go_enter Try.func43, Try.ntmps43
  go_wp2_with fail
  go_at_call 56
  (with_reducible refine (HF.out).mono ?_)
  rintro e w' ⟨v, rfl, hn⟩
  have HN := Lib.hid hn
  clear hn
  go_wp2_with fail
  go_ret2
  exact ⟨_, rfl, HN.out⟩
theorem refWrap_no (A : Option Addr) (l : List UInt8) (cap : Nat) (w : World) (hm : l.length ≤ maxLen) (hr : ¬ RecOk l) :
    Calls Try.prog 43 #[.slice A l.length cap] w fun e w' => e = .returned (.tuple #[.slice none 0 0, .int .i64 1]) ∧ w = w' := by
  obtain ⟨n, en⟩ : ∃ n, n = l.length := ⟨_, rfl⟩
  unfold RecOk at hr
  unfold maxLen at hm
  rw [← en] at hr hm ⊢
  clear en
  by_cases h0 : n = 0
  · subst h0
    clear hr
    go_enter Try.func43, Try.ntmps43
    go_wp2
    go_ret2
    exact ⟨rfl, rfl⟩
  · have h1 : ¬ (n : Int) < 1 := by omega
    have h2 : (4096 : Int) < (n : Int) := by omega
    clear hr h0
    go_enter Try.func43, Try.ntmps43
    go_wp2
    go_ret2
    exact ⟨rfl, rfl⟩
end Go.Proofs.Ytpfdlcogldbocaa

/-
  Package script: the pattern of an address. Condition: texts of at most 2000 bytes.
-/
import Derived.Test.YtncbmdbfdjhkeaaSh
namespace Go.Proofs.Ytncbmdbfdjhkeaa
open Go.RowKit Go.Deep Go.Sort

/-- What matched leaves. -/
def MtA (s : ByteArray) (ext : Bool) (r b : Nat) (sel0 : Int → CX) (sel : Int → NV → CX) (x : Option (Bool × Option PN × Nat)) (W W' : World) : Prop := ∃ (m : Nat) (c' : CX), RC s ext r b (m : Int) c' W W' ∧ ∀ p, x = some p → m = p.2.2 ∧ match p.2.1 with
  | none => c' = sel0 (if p.1 then 4 else 3)
  | some t => ∃ y, IsP (fun k => k < W.heap.size) W' t y ∧ c' = sel (if p.1 then 4 else 3) y
set_option maxRecDepth 100000 in
set_option maxHeartbeats 8000000 in
theorem matched_from {s : ByteArray} {ext : Bool} {r b n : Nat} {c : CX} {w : World} (hz : s.size ≤ 2000) (hM : MaxAt w) (hrb : r ≠ b) (h : Rd s ext r (n : Int) w) (hc : Cm c b w) (d : UInt8) {x : Option (Bool × Option PN × Nat)} (hx : x = patX ext s.data.toList n d) : Calls Try.prog 43 #[.pointer (some ⟨r, 0, none⟩), .pointer (some ⟨b, 2, none⟩), .int .u8 (d.toNat : Int)] w fun e w' => e = .returned (.bool x.isSome) ∧ MtA s ext r b (fun k => { c with fk := k }) (fun k y => { c with fy := y, fk := k }) x w w' := by
  have HX := Lib.hid hx
  have HRB := Lib.hid hrb
  have HBL := Lib.hid hc.lt
  have HRL := Lib.hid h.lt
  have HMX := Lib.hid hM
  have H0 := Lib.hid (RC.start h hc)
  have HZ := Lib.hid hz
  clear hx hrb h hc hz hM
  go_enter Try.func43, Try.ntmps43
  go_upto_region 2 with fail
  obtain ⟨g, hg⟩ : ∃ g, g = w.heap.size := ⟨_, rfl⟩
  obtain ⟨w1, hw1⟩ : ∃ w1, w1 = w.alloc (.cells #[.bool false] 4) := ⟨_, rfl⟩
  have H1 := Lib.hid (show RC s ext r b (n : Int) c w w1 by rw [hw1]; exact H0.out.below (bW w _))
  have HG1 := Lib.hid (show B1 (.bool false) 4 g w1 by rw [hw1, hg]; exact heap_alloc_new w _)
  have HGL := Lib.hid (show w.heap.size ≤ g by omega)
  have HWL := Lib.hid (show w.heap.size ≤ w1.heap.size by rw [hw1, World.size_alloc]; omega)
  rw [← hw1, ← hg]
  clear hg
  have HMX1 := Lib.hid (show MaxAt w1 by rw [hw1]; exact HMX.out.below (bW w _))
  clear hw1
  have HP := Lib.hid (pattern_from HZ.out HMX1.out HRB.out H1.out.rd H1.out.cm HG1.out (by have := HGL.out; have := HRL.out; omega) (by have := HGL.out; have := HBL.out; omega) d HX.out)
  go_wp2_with fail
  go_at_call 46
  with_reducible refine HP.out.mono ?_
  rintro e w2 ⟨rfl, m, c', ag, hj, hp⟩
  have H2 := Lib.hid (show RC s ext r b (m : Int) c' w w2 from ⟨hj.rd, hj.cm, H1.out.tu.trans hj.tu fun i hi e => e.elim .inl fun e => e.elim .inr fun e => by have := HGL.out; omega⟩)
  have HG2 := Lib.hid hj.bx
  have HPP := Lib.hid hp
  have HBG := Lib.hid (show b ≠ g by have := HGL.out; have := HBL.out; omega)
  clear hj hp HP
  have kc := H2.out.cm.cell 2 _ rfl
  have kf := H2.out.cm.free 2
  go_upto_region 4 with fail
  have H3 := Lib.hid (show RC s ext r b (m : Int) { c' with fk := 3 } w (w2.setCell ⟨b, 2, none⟩ (.int .i64 3)) from H2.out.set HRB.out 2 _ _ (by kernel_rfl))
  have HG3 := Lib.hid (show B1 (.bool ag) 4 g (w2.setCell ⟨b, 2, none⟩ (.int .i64 3)) from HG2.out.other (Ne.symm HBG.out) _)
  have HY3 := Lib.hid (show ∀ tt y, IsP (fun k => k < w.heap.size) w2 tt y → IsP (fun k => k < w.heap.size) (w2.setCell ⟨b, 2, none⟩ (.int .i64 3)) tt y from fun tt y hy => hy.turned ((Turned.refl (fun k => k < w.heap.size) w2).put HBL.out 2 _))
  obtain ⟨w3, hw3⟩ : ∃ w3, w3 = w2.setCell ⟨b, 2, none⟩ (.int .i64 3) := ⟨_, rfl⟩
  rw [← hw3] at H3 HG3 HY3 ⊢
  clear hw3 kc kf
  have kg := HG3.out.cell
  cases ag with
  | false =>
    go_wp2_with fail
    go_ret
    refine ⟨rfl, m, _, H3.out, fun p hp => ?_⟩
    obtain ⟨h1, h2, h3⟩ := HPP.out p hp
    refine ⟨h1, ?_⟩
    rw [← h2]
    cases h4 : p.2.1 with
    | none =>
      rw [h4] at h3
      simp only at h3 ⊢
      rw [h3]
      rfl
    | some tt =>
      rw [h4] at h3
      simp only at h3 ⊢
      obtain ⟨y, hy, h3⟩ := h3
      exact ⟨y, HY3.out tt y (hy.weaken fun k hk => Nat.lt_of_lt_of_le hk HWL.out), by rw [h3]; rfl⟩
  | true =>
    have kc := H3.out.cm.cell 2 _ rfl
    have kf := H3.out.cm.free 2
    go_wp2_with fail
    go_ret
    refine ⟨rfl, m, { c' with fk := 4 }, H3.out.set HRB.out 2 _ _ (by kernel_rfl), fun p hp => ?_⟩
    obtain ⟨h1, h2, h3⟩ := HPP.out p hp
    refine ⟨h1, ?_⟩
    rw [← h2]
    cases h4 : p.2.1 with
    | none =>
      rw [h4] at h3
      simp only at h3 ⊢
      rw [h3]
      rfl
    | some tt =>
      rw [h4] at h3
      simp only at h3 ⊢
      obtain ⟨y, hy, h3⟩ := h3
      exact ⟨y, (HY3.out tt y (hy.weaken fun k hk => Nat.lt_of_lt_of_le hk HWL.out)).turned ((Turned.refl (fun k => k < w.heap.size) w3).put HBL.out 2 _), by rw [h3]; rfl⟩
set_option maxRecDepth 100000 in
set_option maxHeartbeats 8000000 in
theorem matched_to {s : ByteArray} {ext : Bool} {r b n : Nat} {c : CX} {w : World} (hz : s.size ≤ 2000) (hM : MaxAt w) (hrb : r ≠ b) (h : Rd s ext r (n : Int) w) (hc : Cm c b w) (d : UInt8) {x : Option (Bool × Option PN × Nat)} (hx : x = patX ext s.data.toList n d) : Calls Try.prog 43 #[.pointer (some ⟨r, 0, none⟩), .pointer (some ⟨b, 13, none⟩), .int .u8 (d.toNat : Int)] w fun e w' => e = .returned (.bool x.isSome) ∧ MtA s ext r b (fun k => { c with tk := k }) (fun k y => { c with ty := y, tk := k }) x w w' := by
  have HX := Lib.hid hx
  have HRB := Lib.hid hrb
  have HBL := Lib.hid hc.lt
  have HRL := Lib.hid h.lt
  have HMX := Lib.hid hM
  have H0 := Lib.hid (RC.start h hc)
  have HZ := Lib.hid hz
  clear hx hrb h hc hz hM
  go_enter Try.func43, Try.ntmps43
  go_upto_region 2 with fail
  obtain ⟨g, hg⟩ : ∃ g, g = w.heap.size := ⟨_, rfl⟩
  obtain ⟨w1, hw1⟩ : ∃ w1, w1 = w.alloc (.cells #[.bool false] 4) := ⟨_, rfl⟩
  have H1 := Lib.hid (show RC s ext r b (n : Int) c w w1 by rw [hw1]; exact H0.out.below (bW w _))
  have HG1 := Lib.hid (show B1 (.bool false) 4 g w1 by rw [hw1, hg]; exact heap_alloc_new w _)
  have HGL := Lib.hid (show w.heap.size ≤ g by omega)
  have HWL := Lib.hid (show w.heap.size ≤ w1.heap.size by rw [hw1, World.size_alloc]; omega)
  rw [← hw1, ← hg]
  clear hg
  have HMX1 := Lib.hid (show MaxAt w1 by rw [hw1]; exact HMX.out.below (bW w _))
  clear hw1
  have HP := Lib.hid (pattern_to HZ.out HMX1.out HRB.out H1.out.rd H1.out.cm HG1.out (by have := HGL.out; have := HRL.out; omega) (by have := HGL.out; have := HBL.out; omega) d HX.out)
  go_wp2_with fail
  go_at_call 46
  with_reducible refine HP.out.mono ?_
  rintro e w2 ⟨rfl, m, c', ag, hj, hp⟩
  have H2 := Lib.hid (show RC s ext r b (m : Int) c' w w2 from ⟨hj.rd, hj.cm, H1.out.tu.trans hj.tu fun i hi e => e.elim .inl fun e => e.elim .inr fun e => by have := HGL.out; omega⟩)
  have HG2 := Lib.hid hj.bx
  have HPP := Lib.hid hp
  have HBG := Lib.hid (show b ≠ g by have := HGL.out; have := HBL.out; omega)
  clear hj hp HP
  have kc := H2.out.cm.cell 13 _ rfl
  have kf := H2.out.cm.free 13
  go_upto_region 4 with fail
  have H3 := Lib.hid (show RC s ext r b (m : Int) { c' with tk := 3 } w (w2.setCell ⟨b, 13, none⟩ (.int .i64 3)) from H2.out.set HRB.out 13 _ _ (by kernel_rfl))
  have HG3 := Lib.hid (show B1 (.bool ag) 4 g (w2.setCell ⟨b, 13, none⟩ (.int .i64 3)) from HG2.out.other (Ne.symm HBG.out) _)
  have HY3 := Lib.hid (show ∀ tt y, IsP (fun k => k < w.heap.size) w2 tt y → IsP (fun k => k < w.heap.size) (w2.setCell ⟨b, 13, none⟩ (.int .i64 3)) tt y from fun tt y hy => hy.turned ((Turned.refl (fun k => k < w.heap.size) w2).put HBL.out 13 _))
  obtain ⟨w3, hw3⟩ : ∃ w3, w3 = w2.setCell ⟨b, 13, none⟩ (.int .i64 3) := ⟨_, rfl⟩
  rw [← hw3] at H3 HG3 HY3 ⊢
  clear hw3 kc kf
  have kg := HG3.out.cell
  cases ag with
  | false =>
    go_wp2_with fail
    go_ret
    refine ⟨rfl, m, _, H3.out, fun p hp => ?_⟩
    obtain ⟨h1, h2, h3⟩ := HPP.out p hp
    refine ⟨h1, ?_⟩
    rw [← h2]
    cases h4 : p.2.1 with
    | none =>
      rw [h4] at h3
      simp only at h3 ⊢
      rw [h3]
      rfl
    | some tt =>
      rw [h4] at h3
      simp only at h3 ⊢
      obtain ⟨y, hy, h3⟩ := h3
      exact ⟨y, HY3.out tt y (hy.weaken fun k hk => Nat.lt_of_lt_of_le hk HWL.out), by rw [h3]; rfl⟩
  | true =>
    have kc := H3.out.cm.cell 13 _ rfl
    have kf := H3.out.cm.free 13
    go_wp2_with fail
    go_ret
    refine ⟨rfl, m, { c' with tk := 4 }, H3.out.set HRB.out 13 _ _ (by kernel_rfl), fun p hp => ?_⟩
    obtain ⟨h1, h2, h3⟩ := HPP.out p hp
    refine ⟨h1, ?_⟩
    rw [← h2]
    cases h4 : p.2.1 with
    | none =>
      rw [h4] at h3
      simp only at h3 ⊢
      rw [h3]
      rfl
    | some tt =>
      rw [h4] at h3
      simp only at h3 ⊢
      obtain ⟨y, hy, h3⟩ := h3
      exact ⟨y, (HY3.out tt y (hy.weaken fun k hk => Nat.lt_of_lt_of_le hk HWL.out)).turned ((Turned.refl (fun k => k < w.heap.size) w3).put HBL.out 13 _), by rw [h3]; rfl⟩
end Go.Proofs.Ytncbmdbfdjhkeaa

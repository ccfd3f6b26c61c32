/-
  A reader of scripts: a byte taken, what stands up to a delimiter. Condition: texts of at most 2000 bytes.
-/
import Derived.Test.YtncbmdbfdjhkeaaSb
import Derived.Test.YtncbmdbfdjhkeaaSpn
namespace Go.Proofs.Ytncbmdbfdjhkeaa
open Go.RowKit Go.Deep Go.Sort

set_option maxRecDepth 100000 in
set_option maxHeartbeats 4000000 in
theorem take_m {s : ByteArray} {ext : Bool} {r n : Nat} {w : World} (hz : s.size ≤ 2000) (h : Rd s ext r (n : Int) w) (t : ByteArray) {f : Bool} (hf : f = oneF t.data.toList s.data.toList (n : Int)) : Calls Try.prog 12 #[.pointer (some ⟨r, 0, none⟩), .string t] w fun e w' => e = .returned (.bool f) ∧ Mv s ext r ((if f then n + 1 else n : Nat) : Int) w w' := by
  have HF := Lib.hid (follows_m h t)
  rw [← hf] at HF
  have HR := Lib.hid h
  have hn : f = true → n < 2000 := fun hh => by
    rw [hf] at hh
    apply Nat.lt_of_not_le
    intro hle
    rw [oneF_big (by have := tk_size_of (s := s) rfl; omega)] at hh
    cases hh
  clear hf h
  go_enter Try.func12, Try.ntmps12
  go_wp2_with fail
  go_at_call 13
  with_reducible refine HF.out.mono ?_
  rintro e w1 ⟨rfl, hb1⟩
  have H1 := Lib.hid (Mv.same HR.out hb1)
  clear hb1
  cases f with
  | false =>
    clear hn
    go_wp2_with fail
    go_ret
    exact ⟨rfl, H1.out⟩
  | true =>
    have e1 : IntKind.i64.wrap ((n : Int) + 1) = ((n + 1 : Nat) : Int) := by have := hn rfl; rw [IntWalk.i64_in _ (by omega)]; omega
    have k1 := H1.out.rd.at
    have kf := H1.out.rd.free 1
    clear hn
    go_wp2_with fail
    go_ret
    exact ⟨rfl, H1.out.put _⟩
/-- The byte that is taken. -/
def anyB (l : List UInt8) (n : Nat) : UInt8 := (l[n]?).getD 0
set_option maxRecDepth 100000 in
set_option maxHeartbeats 4000000 in
theorem any_m {s : ByteArray} {ext : Bool} {r n : Nat} {w : World} (hz : s.size ≤ 2000) (hn : n ≤ s.size) (h : Rd s ext r (n : Int) w) : Calls Try.prog 18 #[.pointer (some ⟨r, 0, none⟩)] w fun e w' => e = .returned (.int .u8 ((anyB s.data.toList n).toNat : Int)) ∧ Mv s ext r ((if n < s.size then n + 1 else n : Nat) : Int) w w' := by
  have k0 := h.text
  have k1 := h.at
  have kf := h.free 1
  have HR := Lib.hid h
  clear h
  by_cases h2 : n < s.size
  · have g2 : ((n : Int) == (s.size : Int)) = false := by rw [beq_eq_false_iff_ne]; omega
    have g2n : (n == s.size) = false := by rw [beq_eq_false_iff_ne]; omega
    obtain ⟨c, hc⟩ : ∃ c, s.data.toList[n]? = some c := ⟨_, List.getElem?_eq_getElem (by simpa using h2)⟩
    have hat := tk_at_of rfl hc
    have HA := Lib.hid (show anyB s.data.toList n = c by unfold anyB; rw [hc]; rfl)
    rw [HA.out, if_pos h2]
    have e1 : IntKind.i64.wrap ((n : Int) + 1) = ((n + 1 : Nat) : Int) := by rw [IntWalk.i64_in _ (by omega)]; omega
    have h2i : (n : Int) < (s.size : Int) := by omega
    have HZ := Lib.hid hz
    have HZ := Lib.hid hz
    have HZ := Lib.hid hz
    clear hc hz hn
    go_enter Try.func18, Try.ntmps18
    go_upto_region 1 with fail
    go_quiet (fail)
    go_upto_region 4 with fail
    have R2 := Lib.hid ((Mv.same HR.out (bD w nq)).put ((n : Int) + 1))
    have m0 := R2.out.rd.text
    have m1 := R2.out.rd.at
    have e2 : IntKind.i64.wrap ((n : Int) + 1 - 1) = (n : Int) := by rw [IntWalk.i64_in _ (by have := HZ.out; omega)]; omega
    have e3 : IntKind.i64.wrap (n : Int) = (n : Int) := by rw [IntWalk.i64_in _ (by have := HZ.out; omega)]
    have h0i : (0 : Int) ≤ (n : Int) := by omega
    obtain ⟨W, hW⟩ : ∃ W, W = (w.drewN nq).setCell ⟨r, 1, none⟩ (.int .i64 ((n : Int) + 1)) := ⟨_, rfl⟩
    rw [← hW] at R2 m0 m1 ⊢
    clear hW k0 k1 kf e1
    go_quiet (fail)
    go_wp2_with fail
    go_ret
    exact ⟨by first | rfl | (rw [hat]; rfl), R2.out.below (bD _ _)⟩
  · have g2 : ((n : Int) == (s.size : Int)) = true := by rw [beq_iff_eq]; omega
    have g2n : (n == s.size) = true := by rw [beq_iff_eq]; omega
    have HA := Lib.hid (show anyB s.data.toList n = 0 by unfold anyB; rw [List.getElem?_eq_none (by have := tk_size_of (s := s) rfl; omega)]; rfl)
    rw [HA.out, if_neg h2]
    clear hz hn
    go_enter Try.func18, Try.ntmps18
    go_upto_region 1 with fail
    go_quiet (fail)
    go_wp2_with fail
    go_ret
    exact ⟨rfl, Mv.same HR.out (bD _ _)⟩
/-- A cell in a box of its own. -/
def B1 (v : Value) (T : TypeId) (b : Nat) (W : World) : Prop := W.heap[b]? = some (.cells #[v] T (0, 0))
theorem B1.cell {v : Value} {T : TypeId} {b : Nat} {W : World} (h : B1 v T b W) : W.cell? ⟨b, 0, none⟩ = some v := by rw [obj_cell h]; rfl
theorem B1.free {v : Value} {T : TypeId} {b : Nat} {W : World} (h : B1 v T b W) : W.frozen? ⟨b, 0, none⟩ = false := frozen_of_row W b 0 _ _ h
theorem B1.put {v : Value} {T : TypeId} {b : Nat} {W : World} (h : B1 v T b W) (u : Value) : B1 u T b (W.setCell ⟨b, 0, none⟩ u) := heap_setCell_same W b 0 _ _ u h
theorem B1.other {v : Value} {T : TypeId} {b : Nat} {W : World} (h : B1 v T b W) {a : Addr} (ha : b ≠ a.block) (u : Value) : B1 v T b (W.setCell a u) := (heap_setCell_other W a b u ha).trans h
theorem B1.stays {v : Value} {T : TypeId} {b : Nat} {W W' : World} (h : B1 v T b W) (hb : Below W.heap.size W W') : B1 v T b W' := Below.obj hb h (lt_of_some h)
theorem B1.turned {v : Value} {T : TypeId} {b : Nat} {W W' : World} {S : Nat → Prop} (h : B1 v T b W) (ht : Turned S W W') (hn : ¬ S b) : B1 v T b W' := ht.obj h hn
/-- What stands up to a delimiter is in the box t. -/
structure Cu (s : ByteArray) (ext : Bool) (r t : Nat) (o : Option (List UInt8 × Nat)) (W W' : World) : Prop where
  ex : ∃ (x : ByteArray) (m : Nat), B1 (.string x) 9 t W' ∧ Rd s ext r (m : Int) W' ∧ ∀ p, o = some p → x = txt p.1 ∧ m = p.2
  tu : Turned (fun k => k = r ∨ k = t) W W'
theorem cutV_is (o : Option (List UInt8 × Nat)) : ∃ (X : ByteArray) (m : Nat) (ec : Int), CutV o = .tuple #[.string X, .int .i64 (m : Int), .int .i64 ec] ∧ (ec == 0) = o.isSome ∧ ∀ p, o = some p → X = txt p.1 ∧ m = p.2 := by
  cases o with
  | none => exact ⟨_, 0, _, rfl, rfl, fun p h => by cases h⟩
  | some q => exact ⟨_, _, _, rfl, rfl, fun p h => by injection h with h; subst h; exact ⟨rfl, rfl⟩⟩
set_option maxRecDepth 100000 in
set_option maxHeartbeats 8000000 in
theorem cut_m {s : ByteArray} {ext : Bool} {r t n : Nat} {w : World} {v : Value} (hz : s.size ≤ 2000) (h : Rd s ext r (n : Int) w) (ht : B1 v 9 t w) (hrt : r ≠ t) (d : UInt8) (ln : Bool) {o : Option (List UInt8 × Nat)} (ho : o = cutG d ln s.data.toList (n : Int)) :
    Calls Try.prog 54 #[.pointer (some ⟨r, 0, none⟩), .pointer (some ⟨t, 0, none⟩), .int .u8 (d.toNat : Int), .bool ln] w fun e w' => e = .returned (.bool o.isSome) ∧ Cu s ext r t o w w' := by
  have HC := Lib.hid fun W => cut_is s (by omega) (n : Int) d ln W
  rw [← ho] at HC
  have k0 := h.text
  have k1 := h.at
  have kf := h.free 1
  have tf := ht.free
  have HR := Lib.hid h
  have HT := Lib.hid ht
  have HN := Lib.hid hrt
  clear ho h ht hrt hz
  unfold CutAns at HC
  obtain ⟨X, m, ec, he, hec, hX⟩ := cutV_is o
  rw [he] at HC
  have HX := Lib.hid hX
  clear he hX
  go_enter Try.func54, Try.ntmps54
  go_upto_region 2 with fail
  refine wp_region_plan (fun wx => wx.cell? ⟨r, 0, none⟩ = some (.string s) ∧ wx.cell? ⟨r, 1, none⟩ = some (.int .i64 (n : Int))) [.p 0, .p 1, .p 2, .p 3, .p 4, .p 6, .p 7, .p 8, .p 10, .p 11, .l 5, .l 9, .o 12, .p 13, .p 14, .p 15, .p 16, .p 17, .o 18, .p 19, .p 20, .o 21, .p 22] [18, 21] (by kernel_rfl) (by kernel_rfl) (by kernel_rfl) (by first | exact pq_body | exact pq_then pq_body | exact pq_then (pq_then pq_body)) (by kernel_rfl) ?_
  iterate 10
    refine plan_p (v := ?_) rfl (by rfl) (fun wx => ?_) ?_
    rotate_left
    · go_simp
      try with_reducible rfl
    simp only [Act.put, List.setIfInBounds_toArray]
  iterate 2
    refine plan_l (v := ?_) ⟨k0, k1⟩ rfl (by rfl) (fun wx hSw => ?_) ?_
    rotate_left
    · obtain ⟨u0, u1⟩ := hSw
      go_simp
      try with_reducible rfl
    simp only [Act.put]
  refine plan_o rfl (fun K hK => ?_)
  go_simp
  refine (HC.out _).mono ?_
  rintro e w1 ⟨rfl, hb1⟩
  refine hK _ _ ⟨fun _ hx => ⟨(hb1.cell (block_lt_of_cell hx.1)).trans hx.1, (hb1.cell (block_lt_of_cell hx.2)).trans hx.2⟩, ?_⟩
  clear hK K
  try simp only [Act.put, List.setIfInBounds_toArray, List.set_cons_zero, List.set_cons_succ]
  have HR1 := Lib.hid (HR.out.stays ((bD w 1).trans hb1))
  have HT1 := Lib.hid (HT.out.stays ((bD w 1).trans hb1))
  have HB1 := Lib.hid ((bD w 1).trans hb1)
  clear hb1 tf kf k0 k1
  have tc := HT1.out.cell
  have tf := HT1.out.free
  iterate 5
    refine plan_p (v := ?_) rfl (by rfl) (fun wx => ?_) ?_
    rotate_left
    · go_simp
      try with_reducible rfl
    simp only [Act.put, List.setIfInBounds_toArray]
  refine plan_o rfl (fun K hK => ?_)
  go_simp
  refine hK _ _ ⟨fun h => absurd h (by decide), ?_⟩
  clear hK K
  try simp only [Act.put, List.setIfInBounds_toArray, List.set_cons_zero, List.set_cons_succ]
  have HR2 := Lib.hid (show Rd s ext r (n : Int) (w1.setCell ⟨t, 0, none⟩ (.string X)) from (heap_setCell_other w1 _ r _ HN.out).trans HR1.out)
  have HT2 := Lib.hid (HT1.out.put (.string X))
  have HU2 := Lib.hid (show Turned (fun k => k = r ∨ k = t) w (w1.setCell ⟨t, 0, none⟩ (.string X)) from (Turned.of_below HB1.out).put (.inr rfl) 0 _)
  clear tc tf
  obtain ⟨w2, hw2⟩ : ∃ w2, w2 = w1.setCell ⟨t, 0, none⟩ (.string X) := ⟨_, rfl⟩
  rw [← hw2] at HR2 HT2 HU2 ⊢
  clear hw2
  have rc := HR2.out.at
  have rf := HR2.out.free 1
  iterate 2
    refine plan_p (v := ?_) rfl (by rfl) (fun wx => ?_) ?_
    rotate_left
    · go_simp
      try with_reducible rfl
    simp only [Act.put, List.setIfInBounds_toArray]
  refine plan_o rfl (fun K hK => ?_)
  go_simp
  refine hK _ _ ⟨fun h => absurd h (by decide), ?_⟩
  clear hK K
  try simp only [Act.put, List.setIfInBounds_toArray, List.set_cons_zero, List.set_cons_succ]
  have H3 := Lib.hid (show Cu s ext r t o w (w2.setCell ⟨r, 1, none⟩ (.int .i64 (m : Int))) from ⟨⟨X, m, HT2.out.other (Ne.symm HN.out) _, HR2.out.put _, HX.out⟩, HU2.out.put (.inl rfl) 1 _⟩)
  obtain ⟨w3, hw3⟩ : ∃ w3, w3 = w2.setCell ⟨r, 1, none⟩ (.int .i64 (m : Int)) := ⟨_, rfl⟩
  rw [← hw3] at H3 ⊢
  clear hw3 rc rf
  iterate 1
    refine plan_p (v := ?_) rfl (by rfl) (fun wx => ?_) ?_
    rotate_left
    · go_simp
      try with_reducible rfl
    simp only [Act.put, List.setIfInBounds_toArray]
  refine plan_end ?_
  go_wp2_with fail
  go_ret
  exact ⟨rfl, H3.out⟩
end Go.Proofs.Ytncbmdbfdjhkeaa

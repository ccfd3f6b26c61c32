/-
  Package script: words, labels, lines and files as arguments. Condition: texts of at most 2000 bytes.
-/
import Derived.Test.YtncbmdbfdjhkeaaSk
namespace Go.Proofs.Ytncbmdbfdjhkeaa
open Go.RowKit Go.Deep Go.Sort

/-- The two boxes that a letter's functions hold. -/
structure Cap (r b p q : Nat) (W : World) : Prop where
  rp : B1 (.pointer (some ⟨r, 0, none⟩)) 52 p W
  cq : B1 (.pointer (some ⟨b, 0, none⟩)) 51 q W
theorem Cap.stays {r b p q : Nat} {W W' : World} (h : Cap r b p q W) (hb : Below W.heap.size W W') : Cap r b p q W' := ⟨h.rp.stays hb, h.cq.stays hb⟩
theorem cell_far {k b j i : Nat} (h : k ≠ b) (W : World) (v : Value) : (W.setCell ⟨b, j, none⟩ v).cell? ⟨k, i, none⟩ = W.cell? ⟨k, i, none⟩ := World.cell?_of_block (heap_setCell_other W _ k v h)
theorem Cap.far {r b p q : Nat} {c : CX} {W : World} (h : Cap r b p q W) (hc : Cm c b W) : p ≠ b ∧ q ≠ b := by
  constructor
  · rintro rfl
    have := h.rp.cell
    rw [hc.cell 0 _ rfl] at this
    cases this
  · rintro rfl
    have := h.cq.cell
    rw [hc.cell 0 _ rfl] at this
    cases this
theorem up_nat (st : UInt8 → Bool) (l : List UInt8) (n : Nat) : ∃ m : Nat, (upF st l (n : Int)).2 = (m : Int) := by
  unfold upF
  split
  · exact ⟨n + blk (l.drop n) + (wrd st (l.drop (n + blk (l.drop n)))).length, by simp⟩
  · exact ⟨n, rfl⟩
theorem linV_is (o : Option (List UInt8 × Nat)) : ∃ (X : ByteArray) (m : Nat) (ec : Int), LinV o = .tuple #[.string X, .int .i64 (m : Int), .int .i64 ec] ∧ (ec == 0) = o.isSome ∧ ∀ p, o = some p → X = txt p.1 ∧ m = p.2 := by
  cases o with
  | none => exact ⟨_, 0, _, rfl, rfl, fun p h => by cases h⟩
  | some q => exact ⟨_, _, _, rfl, rfl, fun p h => by injection h with h; subst h; exact ⟨rfl, rfl⟩⟩
set_option maxRecDepth 100000 in
set_option maxHeartbeats 8000000 in
theorem word_m {s : ByteArray} {ext : Bool} {r b p q n : Nat} {c : CX} {w : World} (hz : s.size ≤ 2000) (hrb : r ≠ b) (h : Rd s ext r (n : Int) w) (hc : Cm c b w) (cap : Cap r b p q w) {X : ByteArray} {m : Nat} (hX : X = txt (upF endW s.data.toList (n : Int)).1) (hm : (m : Int) = (upF endW s.data.toList (n : Int)).2) : Calls Try.prog 27 #[.pointer (some ⟨p, 0, none⟩), .pointer (some ⟨q, 0, none⟩)] w fun e w' => e = .returned (.bool true) ∧ RC s ext r b (m : Int) { c with text := X } w w' := by
  have HU := Lib.hid (show ∀ W, Calls Try.prog 28 #[.string s, .int .i64 (n : Int)] W (fun e w' => e = .returned (.tuple #[.string X, .int .i64 (m : Int)]) ∧ Below W.heap.size W w') from fun W => by
    have := word_is s (by omega) (n : Int) W
    unfold UpAns UpV at this
    rw [← hX, ← hm] at this
    exact this)
  have HPB := Lib.hid (cap.far hc).1
  have HQB := Lib.hid (cap.far hc).2
  have HR := Lib.hid (RC.start h hc)
  have HRB := Lib.hid hrb
  have k0 := cap.rp.cell
  have k1 := cap.cq.cell
  have k2 := h.text
  have k3 := h.at
  clear hX hm hz h hc hrb cap
  go_enter Try.func27, Try.ntmps27
  go_upto_region 1 with fail
  refine wp_region_plan (fun wx => wx.cell? ⟨p, 0, none⟩ = some (.pointer (some ⟨r, 0, none⟩)) ∧ wx.cell? ⟨q, 0, none⟩ = some (.pointer (some ⟨b, 0, none⟩)) ∧ wx.cell? ⟨r, 0, none⟩ = some (.string s) ∧ wx.cell? ⟨r, 1, none⟩ = some (.int .i64 (n : Int))) [.l 0, .l 1, .l 2, .p 3, .p 4, .l 5, .l 6, .p 7, .p 8, .l 9, .o 10, .p 11, .p 12, .p 13, .p 14, .p 15, .o 16, .p 17, .p 18, .o 19] [19] (by kernel_rfl) (by kernel_rfl) (by kernel_rfl) (by repeat (first | exact pq_body | refine pq_then ?_ | refine pq_jump ?_ | refine pq_block ?_)) (by kernel_rfl) ?_
  iterate 3
    refine plan_l (v := ?_) ⟨k0, k1, k2, k3⟩ rfl (by rfl) (fun wx hSw => ?_) ?_
    rotate_left
    · obtain ⟨u0, u1, u2, u3⟩ := hSw
      go_simp
      try with_reducible rfl
    simp only [Act.put, List.setIfInBounds_toArray, List.set_cons_zero, List.set_cons_succ, List.getElem_toArray, List.getElem_cons_succ, List.getElem_cons_zero]
  iterate 2
    refine plan_p (v := ?_) rfl (by rfl) (fun wx => ?_) ?_
    rotate_left
    · go_simp
      try with_reducible rfl
    simp only [Act.put, List.setIfInBounds_toArray, List.set_cons_zero, List.set_cons_succ, List.getElem_toArray, List.getElem_cons_succ, List.getElem_cons_zero]
  iterate 2
    refine plan_l (v := ?_) ⟨k0, k1, k2, k3⟩ rfl (by rfl) (fun wx hSw => ?_) ?_
    rotate_left
    · obtain ⟨u0, u1, u2, u3⟩ := hSw
      go_simp
      try with_reducible rfl
    simp only [Act.put, List.setIfInBounds_toArray, List.set_cons_zero, List.set_cons_succ, List.getElem_toArray, List.getElem_cons_succ, List.getElem_cons_zero]
  iterate 2
    refine plan_p (v := ?_) rfl (by rfl) (fun wx => ?_) ?_
    rotate_left
    · go_simp
      try with_reducible rfl
    simp only [Act.put, List.setIfInBounds_toArray, List.set_cons_zero, List.set_cons_succ, List.getElem_toArray, List.getElem_cons_succ, List.getElem_cons_zero]
  iterate 1
    refine plan_l (v := ?_) ⟨k0, k1, k2, k3⟩ rfl (by rfl) (fun wx hSw => ?_) ?_
    rotate_left
    · obtain ⟨u0, u1, u2, u3⟩ := hSw
      go_simp
      try with_reducible rfl
    simp only [Act.put, List.setIfInBounds_toArray, List.set_cons_zero, List.set_cons_succ, List.getElem_toArray, List.getElem_cons_succ, List.getElem_cons_zero]
  refine plan_o rfl (fun K hK => ?_)
  go_simp
  refine (HU.out _).mono ?_
  rintro e w1 ⟨rfl, hb1⟩
  refine hK _ _ ⟨fun _ hx => ⟨(hb1.cell (block_lt_of_cell hx.1)).trans hx.1, (hb1.cell (block_lt_of_cell hx.2.1)).trans hx.2.1, (hb1.cell (block_lt_of_cell hx.2.2.1)).trans hx.2.2.1, (hb1.cell (block_lt_of_cell hx.2.2.2)).trans hx.2.2.2⟩, ?_⟩
  clear hK K
  try simp only [Act.put, List.setIfInBounds_toArray, List.set_cons_zero, List.set_cons_succ, List.getElem_toArray, List.getElem_cons_succ, List.getElem_cons_zero]
  have H1 := Lib.hid (HR.out.below ((bD w 1).trans hb1))
  clear hb1 k0 k1 k2 k3
  have m1 := H1.out.cm.cell 25 _ rfl
  have mf := H1.out.cm.free 25
  iterate 5
    refine plan_p (v := ?_) rfl (by rfl) (fun wx => ?_) ?_
    rotate_left
    · go_simp
      try with_reducible rfl
    simp only [Act.put, List.setIfInBounds_toArray, List.set_cons_zero, List.set_cons_succ, List.getElem_toArray, List.getElem_cons_succ, List.getElem_cons_zero]
  refine plan_o rfl (fun K hK => ?_)
  go_simp
  refine hK _ _ ⟨fun _ hx => ⟨(cell_far HPB.out _ _).trans hx.1, (cell_far HQB.out _ _).trans hx.2.1, (cell_far HRB.out _ _).trans hx.2.2.1, (cell_far HRB.out _ _).trans hx.2.2.2⟩, ?_⟩
  clear hK K
  try simp only [Act.put, List.setIfInBounds_toArray, List.set_cons_zero, List.set_cons_succ, List.getElem_toArray, List.getElem_cons_succ, List.getElem_cons_zero]
  have H2 := Lib.hid (show RC s ext r b (n : Int) { c with text := X } w (w1.setCell ⟨b, 25, none⟩ (.string X)) from H1.out.set HRB.out 25 _ _ (by kernel_rfl))
  obtain ⟨w2, hw2⟩ : ∃ w2, w2 = w1.setCell ⟨b, 25, none⟩ (.string X) := ⟨_, rfl⟩
  rw [← hw2] at H2 ⊢
  clear hw2 m1 mf
  have m1 := H2.out.rd.at
  have mf := H2.out.rd.free 1
  iterate 2
    refine plan_p (v := ?_) rfl (by rfl) (fun wx => ?_) ?_
    rotate_left
    · go_simp
      try with_reducible rfl
    simp only [Act.put, List.setIfInBounds_toArray, List.set_cons_zero, List.set_cons_succ, List.getElem_toArray, List.getElem_cons_succ, List.getElem_cons_zero]
  refine plan_o rfl (fun K hK => ?_)
  go_simp
  refine hK _ _ ⟨fun h => absurd h (by decide), ?_⟩
  clear hK K
  try simp only [Act.put, List.setIfInBounds_toArray, List.set_cons_zero, List.set_cons_succ, List.getElem_toArray, List.getElem_cons_succ, List.getElem_cons_zero]
  have H3 := Lib.hid (show RC s ext r b (m : Int) { c with text := X } w (w2.setCell ⟨r, 1, none⟩ (.int .i64 (m : Int))) from H2.out.move HRB.out ((Mv.same H2.out.rd (Below.refl _ _)).put (m : Int)))
  obtain ⟨w3, hw3⟩ : ∃ w3, w3 = w2.setCell ⟨r, 1, none⟩ (.int .i64 (m : Int)) := ⟨_, rfl⟩
  rw [← hw3] at H3 ⊢
  clear hw3 m1 mf
  refine plan_end ?_
  go_wp2_with fail
  go_ret
  exact ⟨rfl, H3.out⟩
set_option maxRecDepth 100000 in
set_option maxHeartbeats 8000000 in
theorem lines_m {s : ByteArray} {ext : Bool} {r b p q n : Nat} {c : CX} {w : World} (hz : s.size ≤ 2000) (hrb : r ≠ b) (h : Rd s ext r (n : Int) w) (hc : Cm c b w) (cap : Cap r b p q w) {x : Option (List UInt8 × Nat)} (hx : x = linG s.data.toList (n : Int)) : Calls Try.prog 30 #[.pointer (some ⟨p, 0, none⟩), .pointer (some ⟨q, 0, none⟩)] w fun e w' => e = .returned (.bool x.isSome) ∧ ∃ (m : Nat) (X : ByteArray), RC s ext r b (m : Int) { c with text := X } w w' ∧ ∀ y, x = some y → X = txt y.1 ∧ m = y.2 := by
  have HC := Lib.hid fun W => lines_is s (by omega) (n : Int) W
  rw [← hx] at HC
  unfold LinAns at HC
  obtain ⟨X, m, ec, he, hec, hX⟩ := linV_is x
  rw [he] at HC
  have HX := Lib.hid hX
  have HPB := Lib.hid (cap.far hc).1
  have HQB := Lib.hid (cap.far hc).2
  have HR := Lib.hid (RC.start h hc)
  have HRB := Lib.hid hrb
  have k0 := cap.rp.cell
  have k1 := cap.cq.cell
  have k2 := h.text
  have k3 := h.at
  clear hx he hX hz h hc hrb cap
  go_enter Try.func30, Try.ntmps30
  go_upto_region 2 with fail
  refine wp_region_plan (fun wx => wx.cell? ⟨p, 0, none⟩ = some (.pointer (some ⟨r, 0, none⟩)) ∧ wx.cell? ⟨q, 0, none⟩ = some (.pointer (some ⟨b, 0, none⟩)) ∧ wx.cell? ⟨r, 0, none⟩ = some (.string s) ∧ wx.cell? ⟨r, 1, none⟩ = some (.int .i64 (n : Int))) [.l 0, .l 1, .l 2, .p 3, .p 4, .l 5, .l 6, .p 7, .p 8, .l 9, .o 10, .p 11, .p 12, .p 13, .p 14, .p 15, .p 16, .o 17, .p 18, .p 19, .o 20, .p 21] [20] (by kernel_rfl) (by kernel_rfl) (by kernel_rfl) (by repeat (first | exact pq_body | refine pq_then ?_ | refine pq_jump ?_ | refine pq_block ?_)) (by kernel_rfl) ?_
  iterate 3
    refine plan_l (v := ?_) ⟨k0, k1, k2, k3⟩ rfl (by rfl) (fun wx hSw => ?_) ?_
    rotate_left
    · obtain ⟨u0, u1, u2, u3⟩ := hSw
      go_simp
      try with_reducible rfl
    simp only [Act.put, List.setIfInBounds_toArray, List.set_cons_zero, List.set_cons_succ, List.getElem_toArray, List.getElem_cons_succ, List.getElem_cons_zero]
  iterate 2
    refine plan_p (v := ?_) rfl (by rfl) (fun wx => ?_) ?_
    rotate_left
    · go_simp
      try with_reducible rfl
    simp only [Act.put, List.setIfInBounds_toArray, List.set_cons_zero, List.set_cons_succ, List.getElem_toArray, List.getElem_cons_succ, List.getElem_cons_zero]
  iterate 2
    refine plan_l (v := ?_) ⟨k0, k1, k2, k3⟩ rfl (by rfl) (fun wx hSw => ?_) ?_
    rotate_left
    · obtain ⟨u0, u1, u2, u3⟩ := hSw
      go_simp
      try with_reducible rfl
    simp only [Act.put, List.setIfInBounds_toArray, List.set_cons_zero, List.set_cons_succ, List.getElem_toArray, List.getElem_cons_succ, List.getElem_cons_zero]
  iterate 2
    refine plan_p (v := ?_) rfl (by rfl) (fun wx => ?_) ?_
    rotate_left
    · go_simp
      try with_reducible rfl
    simp only [Act.put, List.setIfInBounds_toArray, List.set_cons_zero, List.set_cons_succ, List.getElem_toArray, List.getElem_cons_succ, List.getElem_cons_zero]
  iterate 1
    refine plan_l (v := ?_) ⟨k0, k1, k2, k3⟩ rfl (by rfl) (fun wx hSw => ?_) ?_
    rotate_left
    · obtain ⟨u0, u1, u2, u3⟩ := hSw
      go_simp
      try with_reducible rfl
    simp only [Act.put, List.setIfInBounds_toArray, List.set_cons_zero, List.set_cons_succ, List.getElem_toArray, List.getElem_cons_succ, List.getElem_cons_zero]
  refine plan_o rfl (fun K hK => ?_)
  go_simp
  refine (HC.out _).mono ?_
  rintro e w1 ⟨rfl, hb1⟩
  refine hK _ _ ⟨fun _ hx => ⟨(hb1.cell (block_lt_of_cell hx.1)).trans hx.1, (hb1.cell (block_lt_of_cell hx.2.1)).trans hx.2.1, (hb1.cell (block_lt_of_cell hx.2.2.1)).trans hx.2.2.1, (hb1.cell (block_lt_of_cell hx.2.2.2)).trans hx.2.2.2⟩, ?_⟩
  clear hK K
  try simp only [Act.put, List.setIfInBounds_toArray, List.set_cons_zero, List.set_cons_succ, List.getElem_toArray, List.getElem_cons_succ, List.getElem_cons_zero]
  have H1 := Lib.hid (HR.out.below ((bD w 1).trans hb1))
  clear hb1 k0 k1 k2 k3
  have m1 := H1.out.cm.cell 25 _ rfl
  have mf := H1.out.cm.free 25
  iterate 6
    refine plan_p (v := ?_) rfl (by rfl) (fun wx => ?_) ?_
    rotate_left
    · go_simp
      try with_reducible rfl
    simp only [Act.put, List.setIfInBounds_toArray, List.set_cons_zero, List.set_cons_succ, List.getElem_toArray, List.getElem_cons_succ, List.getElem_cons_zero]
  refine plan_o rfl (fun K hK => ?_)
  go_simp
  refine hK _ _ ⟨fun _ hx => ⟨(cell_far HPB.out _ _).trans hx.1, (cell_far HQB.out _ _).trans hx.2.1, (cell_far HRB.out _ _).trans hx.2.2.1, (cell_far HRB.out _ _).trans hx.2.2.2⟩, ?_⟩
  clear hK K
  try simp only [Act.put, List.setIfInBounds_toArray, List.set_cons_zero, List.set_cons_succ, List.getElem_toArray, List.getElem_cons_succ, List.getElem_cons_zero]
  have H2 := Lib.hid (show RC s ext r b (n : Int) { c with text := X } w (w1.setCell ⟨b, 25, none⟩ (.string X)) from H1.out.set HRB.out 25 _ _ (by kernel_rfl))
  obtain ⟨w2, hw2⟩ : ∃ w2, w2 = w1.setCell ⟨b, 25, none⟩ (.string X) := ⟨_, rfl⟩
  rw [← hw2] at H2 ⊢
  clear hw2 m1 mf
  have m1 := H2.out.rd.at
  have mf := H2.out.rd.free 1
  iterate 2
    refine plan_p (v := ?_) rfl (by rfl) (fun wx => ?_) ?_
    rotate_left
    · go_simp
      try with_reducible rfl
    simp only [Act.put, List.setIfInBounds_toArray, List.set_cons_zero, List.set_cons_succ, List.getElem_toArray, List.getElem_cons_succ, List.getElem_cons_zero]
  refine plan_o rfl (fun K hK => ?_)
  go_simp
  refine hK _ _ ⟨fun h => absurd h (by decide), ?_⟩
  clear hK K
  try simp only [Act.put, List.setIfInBounds_toArray, List.set_cons_zero, List.set_cons_succ, List.getElem_toArray, List.getElem_cons_succ, List.getElem_cons_zero]
  have H3 := Lib.hid (show RC s ext r b (m : Int) { c with text := X } w (w2.setCell ⟨r, 1, none⟩ (.int .i64 (m : Int))) from H2.out.move HRB.out ((Mv.same H2.out.rd (Below.refl _ _)).put (m : Int)))
  obtain ⟨w3, hw3⟩ : ∃ w3, w3 = w2.setCell ⟨r, 1, none⟩ (.int .i64 (m : Int)) := ⟨_, rfl⟩
  rw [← hw3] at H3 ⊢
  clear hw3 m1 mf
  iterate 1
    refine plan_p (v := ?_) rfl (by rfl) (fun wx => ?_) ?_
    rotate_left
    · go_simp
      try with_reducible rfl
    simp only [Act.put, List.setIfInBounds_toArray, List.set_cons_zero, List.set_cons_succ, List.getElem_toArray, List.getElem_cons_succ, List.getElem_cons_zero]
  refine plan_end ?_
  go_wp2_with fail
  go_ret
  exact ⟨by rw [← hec]; rfl, m, X, H3.out, HX.out⟩
set_option maxRecDepth 100000 in
set_option maxHeartbeats 8000000 in
theorem file_m {s : ByteArray} {ext : Bool} {r b p q n : Nat} {c : CX} {w : World} (hz : s.size ≤ 2000) (hrb : r ≠ b) (h : Rd s ext r (n : Int) w) (hc : Cm c b w) (cap : Cap r b p q w) {X : ByteArray} {m : Nat} (hX : X = txt (upF endR s.data.toList (n : Int)).1) (hm : (m : Int) = (upF endR s.data.toList (n : Int)).2) : Calls Try.prog 32 #[.pointer (some ⟨p, 0, none⟩), .pointer (some ⟨q, 0, none⟩)] w fun e w' => e = .returned (.bool (decide (RightP X))) ∧ RC s ext r b (m : Int) { c with text := X } w w' := by
  have HPB := Lib.hid (cap.far hc).1
  have HQB := Lib.hid (cap.far hc).2
  have HR := Lib.hid (RC.start h hc)
  have HRB := Lib.hid hrb
  have k0 := cap.rp.cell
  have k1 := cap.cq.cell
  have k2 := h.text
  have k3 := h.at
  have HP := Lib.hid (path_text (w := w.drew) hz hrb (h.stays (bD w 1)) (hc.stays (bD w 1)) hX hm)
  clear hX hm hz h hc hrb cap
  go_enter Try.func32, Try.ntmps32
  go_upto_region 1 with fail
  refine wp_region_plan (fun wx => wx.cell? ⟨p, 0, none⟩ = some (.pointer (some ⟨r, 0, none⟩)) ∧ wx.cell? ⟨q, 0, none⟩ = some (.pointer (some ⟨b, 0, none⟩))) [.l 0, .l 1, .p 2, .p 3, .o 4, .p 5] [4] (by kernel_rfl) (by kernel_rfl) (by kernel_rfl) (by repeat (first | exact pq_body | refine pq_then ?_ | refine pq_jump ?_ | refine pq_block ?_)) (by kernel_rfl) ?_
  iterate 2
    refine plan_l (v := ?_) ⟨k0, k1⟩ rfl (by rfl) (fun wx hSw => ?_) ?_
    rotate_left
    · obtain ⟨u0, u1⟩ := hSw
      go_simp
      try with_reducible rfl
    simp only [Act.put, List.setIfInBounds_toArray, List.set_cons_zero, List.set_cons_succ, List.getElem_toArray, List.getElem_cons_succ, List.getElem_cons_zero]
  iterate 2
    refine plan_p (v := ?_) rfl (by rfl) (fun wx => ?_) ?_
    rotate_left
    · go_simp
      try with_reducible rfl
    simp only [Act.put, List.setIfInBounds_toArray, List.set_cons_zero, List.set_cons_succ, List.getElem_toArray, List.getElem_cons_succ, List.getElem_cons_zero]
  refine plan_o rfl (fun K hK => ?_)
  go_simp
  refine HP.out.mono ?_
  rintro e w1 ⟨rfl, hrc⟩
  refine hK _ _ ⟨fun h => absurd h (by decide), ?_⟩
  clear hK K
  try simp only [Act.put, List.setIfInBounds_toArray, List.set_cons_zero, List.set_cons_succ, List.getElem_toArray, List.getElem_cons_succ, List.getElem_cons_zero]
  have H1 := Lib.hid ((HR.out.below (bD w 1)).trans hrc)
  clear hrc k0 k1 k2 k3
  iterate 1
    refine plan_p (v := ?_) rfl (by rfl) (fun wx => ?_) ?_
    rotate_left
    · go_simp
      try with_reducible rfl
    simp only [Act.put, List.setIfInBounds_toArray, List.set_cons_zero, List.set_cons_succ, List.getElem_toArray, List.getElem_cons_succ, List.getElem_cons_zero]
  refine plan_end ?_
  go_wp2_with fail
  go_ret
  exact ⟨rfl, H1.out⟩
end Go.Proofs.Ytncbmdbfdjhkeaa

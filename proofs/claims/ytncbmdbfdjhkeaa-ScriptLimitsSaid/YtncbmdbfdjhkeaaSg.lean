/-
  Package script: a path; patterns. Condition: texts of at most 2000 bytes.
-/
import Derived.Test.YtncbmdbfdjhkeaaSf
namespace Go.Proofs.Ytncbmdbfdjhkeaa
open Go.RowKit Go.Deep Go.Sort

theorem trim_len (l : List UInt8) : (trimR l).length ≤ l.length := by
  unfold trimR
  have h : (l.reverse.dropWhile isBl).length ≤ l.reverse.length := (List.dropWhile_sublist _).length_le
  simpa using h
theorem up_len (st : UInt8 → Bool) (l : List UInt8) (i : Int) : (upF st l i).1.length ≤ l.length := by
  unfold upF
  split
  · have h1 := trim_len (wrd st (l.drop (i.toNat + blk (l.drop i.toNat))))
    have h2 : (wrd st (l.drop (i.toNat + blk (l.drop i.toNat)))).length ≤ (l.drop (i.toNat + blk (l.drop i.toNat))).length := (List.takeWhile_sublist _).length_le
    rw [List.length_drop] at h2
    simp only
    omega
  · simp
set_option maxRecDepth 100000 in
set_option maxHeartbeats 8000000 in
theorem path_text {s : ByteArray} {ext : Bool} {r b n : Nat} {c : CX} {w : World} (hz : s.size ≤ 2000) (hrb : r ≠ b) (h : Rd s ext r (n : Int) w) (hc : Cm c b w) {X : ByteArray} {q : Nat} (hX : X = txt (upF endR s.data.toList (n : Int)).1) (hq : ((q : Nat) : Int) = (upF endR s.data.toList (n : Int)).2) : Calls Try.prog 33 #[.pointer (some ⟨r, 0, none⟩), .pointer (some ⟨b, 25, none⟩)] w fun e w' => e = .returned (.bool (decide (RightP X))) ∧ RC s ext r b (q : Int) { c with text := X } w w' := by
  have HU := Lib.hid (show ∀ W, Calls Try.prog 14 #[.string s, .int .i64 (n : Int)] W (fun e w' => e = .returned (.tuple #[.string X, .int .i64 (q : Int)]) ∧ Below W.heap.size W w') from fun W => by
    have := rest_is s (by omega) (n : Int) W
    unfold UpAns UpV at this
    rw [← hX, ← hq] at this
    exact this)
  have HT := Lib.hid fun W => tree_right X W (by rw [hX, size_txt]; have := up_len endR s.data.toList (n : Int); have h2 : s.data.toList.length = s.size := by simp
                                                 omega)
  have HR := Lib.hid (RC.start h hc)
  have HRB := Lib.hid hrb
  have k0 := h.text
  have k1 := h.at
  unfold Answers at HT
  clear hX hq hz h hc hrb
  go_enter Try.func33, Try.ntmps33
  go_upto_region 1 with fail
  refine wp_region_plan (fun wx => wx.cell? ⟨r, 0, none⟩ = some (.string s) ∧ wx.cell? ⟨r, 1, none⟩ = some (.int .i64 (n : Int))) [.p 0, .p 1, .p 2, .p 3, .p 4, .p 6, .p 7, .p 8, .l 5, .l 9, .o 10, .p 11, .p 12, .p 13, .p 14, .o 15, .p 16, .p 17, .o 18] [15, 18] (by kernel_rfl) (by kernel_rfl) (by kernel_rfl) (by repeat (first | exact pq_body | refine pq_then ?_ | refine pq_jump ?_ | refine pq_block ?_)) (by kernel_rfl) ?_
  iterate 8
    refine plan_p (v := ?_) rfl (by rfl) (fun wx => ?_) ?_
    rotate_left
    · go_simp
      try with_reducible rfl
    simp only [Act.put, List.setIfInBounds_toArray]
  iterate 2
    refine plan_l (v := ?_) ⟨k0, k1⟩ rfl (by rfl) (fun wx hSw => ?_) ?_
    rotate_left
    · obtain ⟨u0, u1⟩ := hSw
      go_simp
      try with_reducible rfl
    simp only [Act.put]
  refine plan_o rfl (fun K hK => ?_)
  go_simp
  refine (HU.out _).mono ?_
  rintro e w1 ⟨rfl, hb1⟩
  refine hK _ _ ⟨fun _ hx => ⟨(hb1.cell (block_lt_of_cell hx.1)).trans hx.1, (hb1.cell (block_lt_of_cell hx.2)).trans hx.2⟩, ?_⟩
  clear hK K
  try simp only [Act.put, List.setIfInBounds_toArray, List.set_cons_zero, List.set_cons_succ]
  have H1 := Lib.hid (HR.out.below ((bD w 1).trans hb1))
  clear hb1 k0 k1
  have k1 := H1.out.cm.cell 25 _ rfl
  have kf := H1.out.cm.free 25
  iterate 4
    refine plan_p (v := ?_) rfl (by rfl) (fun wx => ?_) ?_
    rotate_left
    · go_simp
      try with_reducible rfl
    simp only [Act.put, List.setIfInBounds_toArray]
  refine plan_o rfl (fun K hK => ?_)
  go_simp
  refine hK _ _ ⟨fun h => absurd h (by decide), ?_⟩
  clear hK K
  try simp only [Act.put, List.setIfInBounds_toArray, List.set_cons_zero, List.set_cons_succ]
  have H2 := Lib.hid (show RC s ext r b (n : Int) { c with text := X } w (w1.setCell ⟨b, 25, none⟩ (.string X)) from H1.out.set HRB.out 25 _ _ (by kernel_rfl))
  obtain ⟨w2, hw2⟩ : ∃ w2, w2 = w1.setCell ⟨b, 25, none⟩ (.string X) := ⟨_, rfl⟩
  rw [← hw2] at H2 ⊢
  clear hw2 k1 kf
  have k1 := H2.out.rd.at
  have kf := H2.out.rd.free 1
  iterate 2
    refine plan_p (v := ?_) rfl (by rfl) (fun wx => ?_) ?_
    rotate_left
    · go_simp
      try with_reducible rfl
    simp only [Act.put, List.setIfInBounds_toArray]
  refine plan_o rfl (fun K hK => ?_)
  go_simp
  refine hK _ _ ⟨fun h => absurd h (by decide), ?_⟩
  clear hK K
  try simp only [Act.put, List.setIfInBounds_toArray, List.set_cons_zero, List.set_cons_succ]
  have H3 := Lib.hid (show RC s ext r b (q : Int) { c with text := X } w (w2.setCell ⟨r, 1, none⟩ (.int .i64 (q : Int))) from H2.out.move HRB.out ((Mv.same H2.out.rd (Below.refl _ _)).put (q : Int)))
  obtain ⟨w3, hw3⟩ : ∃ w3, w3 = w2.setCell ⟨r, 1, none⟩ (.int .i64 (q : Int)) := ⟨_, rfl⟩
  rw [← hw3] at H3 ⊢
  clear hw3 k1 kf
  refine plan_end ?_
  have k2 := H3.out.cm.cell 25 _ rfl
  go_wp2_with fail
  go_at_call 45
  with_reducible refine (HT.out _).mono ?_
  rintro e w4 ⟨rfl, hb4⟩
  have H4 := Lib.hid (H3.out.below hb4)
  clear hb4 k2
  go_wp2_with fail
  go_ret
  exact ⟨rfl, H4.out⟩
set_option maxRecDepth 100000 in
set_option maxHeartbeats 8000000 in
theorem path_file {s : ByteArray} {ext : Bool} {r b n : Nat} {c : CX} {w : World} (hz : s.size ≤ 2000) (hrb : r ≠ b) (h : Rd s ext r (n : Int) w) (hc : Cm c b w) {X : ByteArray} {q : Nat} (hX : X = txt (upF endR s.data.toList (n : Int)).1) (hq : ((q : Nat) : Int) = (upF endR s.data.toList (n : Int)).2) : Calls Try.prog 33 #[.pointer (some ⟨r, 0, none⟩), .pointer (some ⟨b, 41, none⟩)] w fun e w' => e = .returned (.bool (decide (RightP X))) ∧ RC s ext r b (q : Int) { c with file := X } w w' := by
  have HU := Lib.hid (show ∀ W, Calls Try.prog 14 #[.string s, .int .i64 (n : Int)] W (fun e w' => e = .returned (.tuple #[.string X, .int .i64 (q : Int)]) ∧ Below W.heap.size W w') from fun W => by
    have := rest_is s (by omega) (n : Int) W
    unfold UpAns UpV at this
    rw [← hX, ← hq] at this
    exact this)
  have HT := Lib.hid fun W => tree_right X W (by rw [hX, size_txt]; have := up_len endR s.data.toList (n : Int); have h2 : s.data.toList.length = s.size := by simp
                                                 omega)
  have HR := Lib.hid (RC.start h hc)
  have HRB := Lib.hid hrb
  have k0 := h.text
  have k1 := h.at
  unfold Answers at HT
  clear hX hq hz h hc hrb
  go_enter Try.func33, Try.ntmps33
  go_upto_region 1 with fail
  refine wp_region_plan (fun wx => wx.cell? ⟨r, 0, none⟩ = some (.string s) ∧ wx.cell? ⟨r, 1, none⟩ = some (.int .i64 (n : Int))) [.p 0, .p 1, .p 2, .p 3, .p 4, .p 6, .p 7, .p 8, .l 5, .l 9, .o 10, .p 11, .p 12, .p 13, .p 14, .o 15, .p 16, .p 17, .o 18] [15, 18] (by kernel_rfl) (by kernel_rfl) (by kernel_rfl) (by repeat (first | exact pq_body | refine pq_then ?_ | refine pq_jump ?_ | refine pq_block ?_)) (by kernel_rfl) ?_
  iterate 8
    refine plan_p (v := ?_) rfl (by rfl) (fun wx => ?_) ?_
    rotate_left
    · go_simp
      try with_reducible rfl
    simp only [Act.put, List.setIfInBounds_toArray]
  iterate 2
    refine plan_l (v := ?_) ⟨k0, k1⟩ rfl (by rfl) (fun wx hSw => ?_) ?_
    rotate_left
    · obtain ⟨u0, u1⟩ := hSw
      go_simp
      try with_reducible rfl
    simp only [Act.put]
  refine plan_o rfl (fun K hK => ?_)
  go_simp
  refine (HU.out _).mono ?_
  rintro e w1 ⟨rfl, hb1⟩
  refine hK _ _ ⟨fun _ hx => ⟨(hb1.cell (block_lt_of_cell hx.1)).trans hx.1, (hb1.cell (block_lt_of_cell hx.2)).trans hx.2⟩, ?_⟩
  clear hK K
  try simp only [Act.put, List.setIfInBounds_toArray, List.set_cons_zero, List.set_cons_succ]
  have H1 := Lib.hid (HR.out.below ((bD w 1).trans hb1))
  clear hb1 k0 k1
  have k1 := H1.out.cm.cell 41 _ rfl
  have kf := H1.out.cm.free 41
  iterate 4
    refine plan_p (v := ?_) rfl (by rfl) (fun wx => ?_) ?_
    rotate_left
    · go_simp
      try with_reducible rfl
    simp only [Act.put, List.setIfInBounds_toArray]
  refine plan_o rfl (fun K hK => ?_)
  go_simp
  refine hK _ _ ⟨fun h => absurd h (by decide), ?_⟩
  clear hK K
  try simp only [Act.put, List.setIfInBounds_toArray, List.set_cons_zero, List.set_cons_succ]
  have H2 := Lib.hid (show RC s ext r b (n : Int) { c with file := X } w (w1.setCell ⟨b, 41, none⟩ (.string X)) from H1.out.set HRB.out 41 _ _ (by kernel_rfl))
  obtain ⟨w2, hw2⟩ : ∃ w2, w2 = w1.setCell ⟨b, 41, none⟩ (.string X) := ⟨_, rfl⟩
  rw [← hw2] at H2 ⊢
  clear hw2 k1 kf
  have k1 := H2.out.rd.at
  have kf := H2.out.rd.free 1
  iterate 2
    refine plan_p (v := ?_) rfl (by rfl) (fun wx => ?_) ?_
    rotate_left
    · go_simp
      try with_reducible rfl
    simp only [Act.put, List.setIfInBounds_toArray]
  refine plan_o rfl (fun K hK => ?_)
  go_simp
  refine hK _ _ ⟨fun h => absurd h (by decide), ?_⟩
  clear hK K
  try simp only [Act.put, List.setIfInBounds_toArray, List.set_cons_zero, List.set_cons_succ]
  have H3 := Lib.hid (show RC s ext r b (q : Int) { c with file := X } w (w2.setCell ⟨r, 1, none⟩ (.int .i64 (q : Int))) from H2.out.move HRB.out ((Mv.same H2.out.rd (Below.refl _ _)).put (q : Int)))
  obtain ⟨w3, hw3⟩ : ∃ w3, w3 = w2.setCell ⟨r, 1, none⟩ (.int .i64 (q : Int)) := ⟨_, rfl⟩
  rw [← hw3] at H3 ⊢
  clear hw3 k1 kf
  refine plan_end ?_
  have k2 := H3.out.cm.cell 41 _ rfl
  go_wp2_with fail
  go_at_call 45
  with_reducible refine (HT.out _).mono ?_
  rintro e w4 ⟨rfl, hb4⟩
  have H4 := Lib.hid (H3.out.below hb4)
  clear hb4 k2
  go_wp2_with fail
  go_ret
  exact ⟨rfl, H4.out⟩
end Go.Proofs.Ytncbmdbfdjhkeaa

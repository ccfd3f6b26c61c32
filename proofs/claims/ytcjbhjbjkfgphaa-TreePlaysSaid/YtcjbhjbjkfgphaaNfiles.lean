/-
  The bodies of the loops of the program's Files and Scan: a file put behind the row. Conditions: the row is the call's own, and lies in a box.
  The program's Scan. Condition: no text is longer than 2^48 bytes.
-/
import Derived.Test.YtcjbhjbjkfgphaaNrange
import Derived.Test.YtcjbhjbjkfgphaaNset
import Derived.Laws.Cover1
namespace Go.Proofs.Ytcjbhjbjkfgphaa
open Go.RowKit Go.Deep Go.Shelf

attribute [local go_sem] Oper.semAt_some
set_option maxRecDepth 100000 in
theorem info_afile : (Try.prog.info? 49).map (fun i => (i.zero, i.size, i.bytes)) = some (some (.agg #[.string ⟨#[]⟩, .int .i64 0, .string ⟨#[]⟩]), 3, 40) := by kernel_rfl
set_option maxRecDepth 100000 in
theorem info_astr : (Try.prog.info? 9).map (fun i => (i.zero, i.size, i.bytes)) = some (some (.string ⟨#[]⟩), 1, 16) := by kernel_rfl
theorem elem_afile : ElemOf 30 49 3 40 := by
  obtain ⟨i, hi, hz, hs, hb⟩ := info_parts info_afile
  exact ⟨Try.underlying30, ⟨i, _, hi, hz, hs, hb, rfl⟩, by omega, by omega⟩
theorem elem_astr : ElemOf 46 9 1 16 := by
  obtain ⟨i, hi, hz, hs, hb⟩ := info_parts info_astr
  exact ⟨Try.underlying46, ⟨i, _, hi, hz, hs, hb, rfl⟩, by omega, by omega⟩

structure FJ (ℓ : Array Bool) (wr : World) (m0 B : Nat) (rv : Value) (vs : List Value) (m b : Nat) (x : FX) (x11 x12 x13 x14 x15 x16 x17 x18 x19 x20 x21 x22 : Value) (w : World) : Prop where
  c0 : ℓ.getD 0 false = true → x11 = rv
  c1 : ℓ.getD 1 false = true → x12 = .pointer (some ⟨b, 0, none⟩)
  c2 : ℓ.getD 2 false = true → x13 = .string x.f.path
  c3 : ℓ.getD 3 false = true → x14 = .string x.f.path
  c4 : ℓ.getD 4 false = true → x15 = .pointer (some ⟨b, 1, none⟩)
  c5 : ℓ.getD 5 false = true → x16 = .int .i64 x.f.ver
  c6 : ℓ.getD 6 false = true → x17 = .pointer (some ⟨b, 2, none⟩)
  c7 : ℓ.getD 7 false = true → x18 = .pointer x.q
  c8 : ℓ.getD 8 false = true → x19 = .string x.f.text
  c9 : ℓ.getD 9 false = true → x20 = .agg #[.string x.f.path, .int .i64 x.f.ver, .string x.f.text]
  low : ℓ.getD 10 false = false → ℓ.getD 11 false = false → Below wr.heap.size wr w
  mid : ℓ.getD 10 false = true → ℓ.getD 11 false = false → ∃ w9, Below wr.heap.size wr w9 ∧ w = w9.alloc (.cells #[Value.string x.f.path, .int .i64 x.f.ver, .string x.f.text] 49) ∧ x21 = .slice (some ⟨w9.heap.size, 0, none⟩) 1 1
  hi : ℓ.getD 11 false = true → ℓ.getD 12 false = false → ∃ w9, Below wr.heap.size wr w9 ∧ w.ownsRow m0 49 3 x22 (m + 1) (vs ++ #[Value.string x.f.path, .int .i64 x.f.ver, .string x.f.text].toList) ∧ (w9.alloc (.cells #[Value.string x.f.path, .int .i64 x.f.ver, .string x.f.text] 49)).grownBy w rv.ownBlock
  fin : ℓ.getD 12 false = true → ∃ w9 w11 v', Below wr.heap.size wr w9 ∧ w11.ownsRow m0 49 3 v' (m + 1) (vs ++ #[Value.string x.f.path, .int .i64 x.f.ver, .string x.f.text].toList) ∧ (w9.alloc (.cells #[Value.string x.f.path, .int .i64 x.f.ver, .string x.f.text] 49)).grownBy w11 rv.ownBlock ∧ w = w11.setCell ⟨B, 0, none⟩ v'
theorem fx_cells (x : FX) : (⟨x.f.path, x.f.ver, x.f.text⟩ : FileM) = x.f := rfl
/-- What lies in the row behind some files. -/
def rowF (pre : List FX) : List Value := filesV (pre.map (·.f))
def FXok (w : World) (x : FX) : Prop := x.f.path.size ≤ 32 ∧ ∃ lx, RopeIs w x.q lx ∧ x.f.text = txt lx
abbrev FS (w : World) := { x : FX // FXok w x }
def unS {w : World} (pre : List (FS w)) : List FX := pre.map (·.1)
theorem good_ok {w : World} {xs : List FX} (h : Good w xs) : ∀ x ∈ xs, FXok w x := fun x hx => ⟨(h.right x hx).2.1, h.ropes x hx⟩
theorem rowF_push {w : World} (pre : List (FS w)) (x : FX) (hx : FXok w x) : rowF (unS (pre ++ [⟨x, hx⟩])) = rowF (unS pre) ++ #[Value.string x.f.path, .int .i64 x.f.ver, .string x.f.text].toList := by
  simp [rowF, unS, filesV, FileM.cells]
theorem own_push {w W : World} {base : Nat} {v : Value} {pre : List (FS w)} {x : FX} {hx : FXok w x} (h : W.ownsRow base 49 3 v (pre.length + 1) (rowF (unS pre) ++ #[Value.string x.f.path, .int .i64 x.f.ver, .string x.f.text].toList)) : W.ownsRow base 49 3 v (pre ++ [(⟨x, hx⟩ : FS w)]).length (rowF (unS (pre ++ [(⟨x, hx⟩ : FS w)]))) := by
  rw [rowF_push, List.length_append]
  exact h
theorem seq_all (xs : List FX) : SeqX xs ⟨#[]⟩ = xs := by
  unfold SeqX
  rw [List.filter_eq_self]
  intro x _
  unfold geX pless
  rw [show (⟨#[]⟩ : ByteArray).toList = [] by rw [ByteArray.toList_eq]]
  cases x.f.path.toList <;> rfl
def FilesI (w : World) (B : Nat) (pre : List (FS w)) (W : World) : Prop := (∃ v, Boxed W B 30 v ∧ W.ownsRow w.heap.size 49 3 v pre.length (rowF (unS pre)) ∧ True) ∧ Below w.heap.size w W
theorem filesI_own (w : World) (B M : Nat) (hM : w.heap.size ≤ M) : OwnFrom M (FilesI w B) :=
  OwnFrom.and ((holdsRow_own w.heap.size B 30 49 3 (fun pre : List (FS w) => pre.length) (fun pre => rowF (unS pre)) (fun _ _ => True)).from M) (ownFrom_below (Nat.le_refl _) hM)
set_option maxRecDepth 100000 in
set_option maxHeartbeats 8000000 in
theorem files_tree {w : World} {p : Option Addr} {fs : List FileM} (h : TreeIs w p fs) : Calls Try.prog 18 #[.pointer p] w (FilesNew fs w) := by
  obtain ⟨xs, r, rfl, hg, hroot, htop⟩ := h.top
  refine (callsIn_wide (n := 4)).1 ?_
  have HLEN := Lib.hid ((callsIn_wide (n := 4 - 1)).2 (len_top htop))
  obtain ⟨ti, hti, hz, hsz, hby⟩ := info_parts info_afile
  obtain ⟨N0, eN0⟩ : ∃ m, m = xs.length := ⟨_, rfl⟩
  rw [← eN0] at HLEN
  have hN0 : N0 ≤ 1024 := by rw [eN0]; exact hg.few
  have HG := Lib.hid hg
  have HROOT := Lib.hid hroot
  have HTOP := Lib.hid htop
  have EN := Lib.hid eN0
  have HN0 := Lib.hid hN0
  clear hg hroot htop eN0 h
  refine callsIn_of_wp_marks Try.func18 rfl trivial ?_ rfl
  simp only [Try.ntmps18, List.size_toArray, List.length_cons, List.length_nil, Nat.reduceAdd, Nat.reduceSub, Array.replicate_succ, Array.replicate_zero, List.push_toArray, List.append_toArray, List.nil_append, List.cons_append]
  gi_wp2_with fail
  refine ⟨trivial, ?_⟩
  gi_at_call 20
  (with_reducible refine HLEN.out.mono ?_)
  rintro e w1 ⟨rfl, rfl⟩
  gi_wp2_with (gi_at_make; refine wpListIn_make_own w rfl _ _ 30 rfl w.heap.size 49 ti _ 3 Try.underlying30 hti hz hsz .i64 .i64 (N0 : Int) N0 rfl rfl rfl (by rw [hby]; have := HN0.out; omega) (by have := HN0.out; unfold maxLen; omega) (Nat.le_refl _) ?_; intro w2 hown2 hgrow2)
  refine ⟨trivial, ?_⟩
  gi_at_call 34
  (with_reducible refine (from_is _ p ⟨#[]⟩ _).mono ?_)
  rintro e w4 ⟨rfl, hw4⟩
  obtain ⟨B, eB⟩ : ∃ B, B = w2.heap.size := ⟨_, rfl⟩
  have hs2 : w2.heap.size = w2.heap.size := rfl
  have hz3 : (w2.alloc (.cells #[.slice (some ⟨w.heap.size, 0, none⟩) 0 N0] 30)).heap.size = B + 1 := by rw [eB]; simp
  have hb2 : Below w.heap.size w w2 := (Below.refl _ w).grown hgrow2 (Nat.le_refl _) (fun k e => by cases e)
  have hB0 : w.heap.size ≤ B := by rw [eB]; exact hb2.size
  have h3 : Below w.heap.size w (w2.alloc (.cells #[.slice (some ⟨w.heap.size, 0, none⟩) 0 N0] 30)) := hb2.alloc hb2.size _
  have hbx3 : Boxed (w2.alloc (.cells #[.slice (some ⟨w.heap.size, 0, none⟩) 0 N0] 30)) B 30 (.slice (some ⟨w.heap.size, 0, none⟩) 0 N0) := by rw [eB]; exact Boxed.new _ _ _
  have hown3 := World.ownsRow.alloc hown2 (.cells #[.slice (some ⟨w.heap.size, 0, none⟩) 0 N0] 30)
  rw [← eB]
  obtain ⟨w3, ew3⟩ : ∃ w3, w3 = w2.alloc (.cells #[.slice (some ⟨w.heap.size, 0, none⟩) 0 N0] 30) := ⟨_, rfl⟩
  rw [← ew3] at hw4 hz3 h3 hbx3 hown3
  rw [← ew3]
  have hT4 : w4.heap[w3.heap.size]? = some (.cells #[.pointer p] 29) := by
    rw [hw4]
    exact (heap_alloc_old _ _ _ (by simp)).trans (heap_alloc_new w3 _)
  have h14 : w4.heap[w3.heap.size + 1]? = some (.cells #[.string ⟨#[]⟩] 9) := by
    rw [hw4]
    have h := heap_alloc_new (w3.alloc (.cells #[.pointer p] 29)) (.cells #[.string ⟨#[]⟩] 9)
    simpa only [World.size_alloc] using h
  have hs4 : w4.heap.size = B + 3 := by rw [hw4]; simp [hz3]
  have hb4 : Below w.heap.size w w4 := by rw [hw4]; exact (h3.alloc h3.size _).alloc (by simp; have := h3.size; omega) _
  have hI4 : FilesI w B [] w4 := by
    refine ⟨⟨_, by rw [hw4]; exact (hbx3.alloc _).alloc _, by rw [hw4]; exact World.ownsRow.alloc (World.ownsRow.alloc hown3 _) _, trivial⟩, hb4⟩
  rw [hz3] at hT4 h14 ⊢
  have HT4 := Lib.hid hT4
  have H14 := Lib.hid h14
  have HS4 := Lib.hid hs4
  have HB4 := Lib.hid hb4
  have HI4 := Lib.hid hI4
  have HB0 := Lib.hid hB0
  obtain ⟨RB, eRB⟩ : ∃ RB, RB = w.heap.size := ⟨_, rfl⟩
  rw [← eRB]
  clear ti hti hz hsz hby hN0 hown2 hgrow2 eB hs2 hb2 h3 hbx3 hown3 hz3 hw4 ew3 hT4 h14 hs4 hb4 hI4 eRB
  gi_wp2_with fail
  refine range_boxed (n := 4) (by omega) (gf := 45) (lb := #[.pointer (some ⟨B + 1 + 1, 0, none⟩), .pointer (some ⟨B + 1, 0, none⟩)]) rfl (enters_of Try.func45 (by kernel_rfl) rfl)
    (seq_tree (FXok w) 3 (B + 1 + 1) (B + 1) w w4 (fun k t => k ≠ B ∧ (k < w.heap.size ∨ t ≠ 49)) ⟨#[]⟩ p r _ xs HB4.out H14.out HT4.out ⟨by omega, .inr (by decide)⟩ (fun k hk => ⟨by have := HS4.out; omega, .inr (by decide)⟩) (fun k hk => ⟨by have := HS4.out; omega, .inr (by decide)⟩) HTOP.out HROOT.out HG.out.rise (good_ok HG.out))
    (Below.refl _ _) (fun _ => rfl) (fun h k => h.trans k) (fun W l o o' h1 h2 h3 h4 => Kp.put HB4.out.size W l o o' h1 h2 h3 h4) (fun W o h => Kp.of_below ((Below.refl _ W).alloc (Nat.le_refl _) o) (Nat.le_trans HB4.out.size h))
    (FilesI w B) (fun _ _ _ => False) (filesI_own w B _ HB4.out.size) (fun _ _ _ _ _ hs _ _ => hs) HI4.out
    (fun (⟨x, _⟩ : FS w) b => { tmps := #[.pointer p, undef, .slice none 0 0, .pointer (some ⟨B, 0, none⟩), .pointer (some ⟨b, 0, none⟩), .pointer p, .int .i64 (N0 : Int), .slice (some ⟨RB, 0, none⟩) 0 N0, .pointer p, .func (.func 45) #[] #[.pointer (some ⟨B + 1 + 1, 0, none⟩), .pointer (some ⟨B + 1, 0, none⟩)], .agg #[.string x.f.path, .int .i64 x.f.ver, .pointer x.q], undef, undef, undef, undef, undef, undef, undef, undef, undef, undef, undef, undef, undef], defers := [] })
    (fun (⟨x, _⟩ : FS w) => .cells #[.string x.f.path, .int .i64 x.f.ver, .pointer x.q] 68) (fun _ => rfl) ?assign ?body ?done ?stop
  case assign =>
    rintro l ⟨x, _⟩ W K hK
    dsimp only
    rw [show encF x = #[.agg #[.string x.f.path, .int .i64 x.f.ver, .pointer x.q]] from rfl]
    gi_wp2
    exact hK
  case body =>
    rintro l pre ⟨x, hx⟩ b wr ⟨⟨rv, hbox, hown, _⟩, hw⟩ hlen hbM hob
    obtain ⟨hp32, hrope0⟩ := hx
    have hpath : x.f.path.size ≤ 281474976710656 := by omega
    have hrope : ∃ lx, RopeIs wr x.q lx ∧ x.f.text = txt lx := by
      obtain ⟨lx, h1, h2⟩ := hrope0
      exact ⟨lx, h1.below hw, h2⟩
    have hm0 : w.heap.size ≤ wr.heap.size := hw.size
    have hB : B < wr.heap.size := hbox.lt
    have hm : pre.length ≤ 1048576 := by
      have h1 := (List.filter_sublist (p := geX ⟨#[]⟩) (l := xs)).length_le
      have h2 := HG.out.few
      have h3 : (SeqX xs ⟨#[]⟩).length = (xs.filter (geX ⟨#[]⟩)).length := rfl
      omega
    dsimp only at hob ⊢
    gi_wp2_with fail
    have k0 := obj_cell hob 0
    have k1 := obj_cell hob 1
    have k2 := obj_cell hob 2
    simp at k0 k1 k2
    have kb := hbox.cell
    have hbl : b < wr.heap.size := (Array.getElem?_eq_some_iff.1 hob).1
    refine wpIn_region_inv (fun ℓ a' w' => ∃ x11 x12 x13 x14 x15 x16 x17 x18 x19 x20 x21 x22, a' = { tmps := #[.pointer p, undef, .slice none 0 0, .pointer (some ⟨B, 0, none⟩), .pointer (some ⟨b, 0, none⟩), .pointer p, .int .i64 (N0 : Int), .slice (some ⟨RB, 0, none⟩) 0 N0, .pointer p, .func (.func 45) #[] #[.pointer (some ⟨B + 1 + 1, 0, none⟩), .pointer (some ⟨B + 1, 0, none⟩)], .agg #[.string x.f.path, .int .i64 x.f.ver, .pointer x.q], x11, x12, x13, x14, x15, x16, x17, x18, x19, x20, x21, x22, undef], defers := [] } ∧ FJ ℓ wr w.heap.size B rv (rowF (unS pre)) pre.length b x x11 x12 x13 x14 x15 x16 x17 x18 x19 x20 x21 x22 w') (by kernel_rfl) (by kernel_rfl) ?_ ?_ ?_
    · refine ⟨_, _, _, _, _, _, _, _, _, _, _, _, rfl, ?_⟩
      have hno : ∀ k, (Array.replicate 13 false).getD k false = true → False := fun k h => by rw [getD_replicate_false] at h; cases h
      exact ⟨fun h => (hno _ h).elim, fun h => (hno _ h).elim, fun h => (hno _ h).elim, fun h => (hno _ h).elim, fun h => (hno _ h).elim, fun h => (hno _ h).elim, fun h => (hno _ h).elim, fun h => (hno _ h).elim, fun h => (hno _ h).elim, fun h => (hno _ h).elim, fun _ _ => (Below.refl _ wr).drew, fun h => (hno _ h).elim, fun h => (hno _ h).elim, fun h => (hno _ h).elim⟩
    · rintro ℓ a' w' i ⟨x11, x12, x13, x14, x15, x16, x17, x18, x19, x20, x21, x22, rfl, hj⟩ hs hsh hi
      have hin : i < 13 := by
        obtain ⟨_, o, ho, _⟩ := mem_ready.1 hi
        exact (Array.getElem?_eq_some_iff.1 ho).1
      have hun := getD_both (mem_ready.1 hi).1
      rcases (show i = 0 ∨ i = 1 ∨ i = 2 ∨ i = 3 ∨ i = 4 ∨ i = 5 ∨ i = 6 ∨ i = 7 ∨ i = 8 ∨ i = 9 ∨ i = 10 ∨ i = 11 ∨ i = 12 by omega) with rfl | rfl | rfl | rfl | rfl | rfl | rfl | rfl | rfl | rfl | rfl | rfl | rfl
      · have h11 : ℓ.getD 11 false = false := Shut.not hi (k := 11) (fun h => hsh.dep h (k := 0) (by kernel_rfl))
        have h12 : ℓ.getD 12 false = false := Shut.not hi (k := 12) (fun h => hsh.dep (hsh.dep h (k := 11) (by kernel_rfl)) (k := 0) (by kernel_rfl))
        have hl : Below wr.heap.size wr w' := by
          by_cases ha : ℓ.getD 10 false = true
          · obtain ⟨w9, q1, q2, _⟩ := hj.mid ha h11
            rw [q2]
            exact q1.alloc q1.size _
          · exact hj.low (by simpa using ha) h11
        have kk := (hl.cell (p := ⟨B, 0, none⟩) hB).trans kb
        refine wpOpIn_step rfl (fun K hK => ?_)
        go_simp
        exact hK _ _ ⟨_, _, _, _, _, _, _, _, _, _, _, _, rfl, ⟨fun _ => rfl, fun h => hj.c1 (flag_of (i := 0) (by decide) h), fun h => hj.c2 (flag_of (i := 0) (by decide) h), fun h => hj.c3 (flag_of (i := 0) (by decide) h), fun h => hj.c4 (flag_of (i := 0) (by decide) h), fun h => hj.c5 (flag_of (i := 0) (by decide) h), fun h => hj.c6 (flag_of (i := 0) (by decide) h), fun h => hj.c7 (flag_of (i := 0) (by decide) h), fun h => hj.c8 (flag_of (i := 0) (by decide) h), fun h => hj.c9 (flag_of (i := 0) (by decide) h), fun h h' => hj.low (by rwa [getD_set_ne false (by decide)] at h) (by rwa [getD_set_ne false (by decide)] at h'), fun h h' => hj.mid (flag_of (i := 0) (by decide) h) (by rwa [getD_set_ne false (by decide)] at h'), fun h => absurd (flag_of (i := 0) (by decide) h) (by rw [h11]; exact Bool.false_ne_true), fun h => absurd (flag_of (i := 0) (by decide) h) (by rw [h12]; exact Bool.false_ne_true)⟩⟩
      · have h11 : ℓ.getD 11 false = false := Shut.not hi (k := 11) (fun h => hsh.dep (hsh.dep (hsh.dep (hsh.dep (hsh.dep h (k := 10) (by kernel_rfl)) (k := 9) (by kernel_rfl)) (k := 3) (by kernel_rfl)) (k := 2) (by kernel_rfl)) (k := 1) (by kernel_rfl))
        have h12 : ℓ.getD 12 false = false := Shut.not hi (k := 12) (fun h => hsh.dep (hsh.dep (hsh.dep (hsh.dep (hsh.dep (hsh.dep h (k := 11) (by kernel_rfl)) (k := 10) (by kernel_rfl)) (k := 9) (by kernel_rfl)) (k := 3) (by kernel_rfl)) (k := 2) (by kernel_rfl)) (k := 1) (by kernel_rfl))
        have h10 : ℓ.getD 10 false = false := Shut.not hi (k := 10) (fun h => hsh.dep (hsh.dep (hsh.dep (hsh.dep h (k := 9) (by kernel_rfl)) (k := 3) (by kernel_rfl)) (k := 2) (by kernel_rfl)) (k := 1) (by kernel_rfl))
        have hl := hj.low h10 h11
        refine wpOpIn_step rfl (fun K hK => ?_)
        go_simp
        exact hK _ _ ⟨_, _, _, _, _, _, _, _, _, _, _, _, rfl, ⟨fun h => hj.c0 (flag_of (i := 1) (by decide) h), fun _ => rfl, fun h => hj.c2 (flag_of (i := 1) (by decide) h), fun h => hj.c3 (flag_of (i := 1) (by decide) h), fun h => hj.c4 (flag_of (i := 1) (by decide) h), fun h => hj.c5 (flag_of (i := 1) (by decide) h), fun h => hj.c6 (flag_of (i := 1) (by decide) h), fun h => hj.c7 (flag_of (i := 1) (by decide) h), fun h => hj.c8 (flag_of (i := 1) (by decide) h), fun h => hj.c9 (flag_of (i := 1) (by decide) h), fun _ _ => hl, fun h => absurd (flag_of (i := 1) (by decide) h) (by rw [h10]; exact Bool.false_ne_true), fun h => absurd (flag_of (i := 1) (by decide) h) (by rw [h11]; exact Bool.false_ne_true), fun h => absurd (flag_of (i := 1) (by decide) h) (by rw [h12]; exact Bool.false_ne_true)⟩⟩
      · have h11 : ℓ.getD 11 false = false := Shut.not hi (k := 11) (fun h => hsh.dep (hsh.dep (hsh.dep (hsh.dep h (k := 10) (by kernel_rfl)) (k := 9) (by kernel_rfl)) (k := 3) (by kernel_rfl)) (k := 2) (by kernel_rfl))
        have h12 : ℓ.getD 12 false = false := Shut.not hi (k := 12) (fun h => hsh.dep (hsh.dep (hsh.dep (hsh.dep (hsh.dep h (k := 11) (by kernel_rfl)) (k := 10) (by kernel_rfl)) (k := 9) (by kernel_rfl)) (k := 3) (by kernel_rfl)) (k := 2) (by kernel_rfl))
        have e1 := (hj.c1 (ready_dep hi (k := 1) (by kernel_rfl))).symm
        subst e1
        have h10 : ℓ.getD 10 false = false := Shut.not hi (k := 10) (fun h => hsh.dep (hsh.dep (hsh.dep h (k := 9) (by kernel_rfl)) (k := 3) (by kernel_rfl)) (k := 2) (by kernel_rfl))
        have hl := hj.low h10 h11
        have kk := (hl.cell (p := ⟨b, 0, none⟩) hbl).trans k0
        refine wpOpIn_step rfl (fun K hK => ?_)
        go_simp
        exact hK _ _ ⟨_, _, _, _, _, _, _, _, _, _, _, _, rfl, ⟨fun h => hj.c0 (flag_of (i := 2) (by decide) h), fun h => hj.c1 (flag_of (i := 2) (by decide) h), fun _ => rfl, fun h => hj.c3 (flag_of (i := 2) (by decide) h), fun h => hj.c4 (flag_of (i := 2) (by decide) h), fun h => hj.c5 (flag_of (i := 2) (by decide) h), fun h => hj.c6 (flag_of (i := 2) (by decide) h), fun h => hj.c7 (flag_of (i := 2) (by decide) h), fun h => hj.c8 (flag_of (i := 2) (by decide) h), fun h => hj.c9 (flag_of (i := 2) (by decide) h), fun _ _ => hl, fun h => absurd (flag_of (i := 2) (by decide) h) (by rw [h10]; exact Bool.false_ne_true), fun h => absurd (flag_of (i := 2) (by decide) h) (by rw [h11]; exact Bool.false_ne_true), fun h => absurd (flag_of (i := 2) (by decide) h) (by rw [h12]; exact Bool.false_ne_true)⟩⟩
      · have h11 : ℓ.getD 11 false = false := Shut.not hi (k := 11) (fun h => hsh.dep (hsh.dep (hsh.dep h (k := 10) (by kernel_rfl)) (k := 9) (by kernel_rfl)) (k := 3) (by kernel_rfl))
        have h12 : ℓ.getD 12 false = false := Shut.not hi (k := 12) (fun h => hsh.dep (hsh.dep (hsh.dep (hsh.dep h (k := 11) (by kernel_rfl)) (k := 10) (by kernel_rfl)) (k := 9) (by kernel_rfl)) (k := 3) (by kernel_rfl))
        have e2 := (hj.c2 (ready_dep hi (k := 2) (by kernel_rfl))).symm
        subst e2
        have h10 : ℓ.getD 10 false = false := Shut.not hi (k := 10) (fun h => hsh.dep (hsh.dep h (k := 9) (by kernel_rfl)) (k := 3) (by kernel_rfl))
        have hl := hj.low h10 h11
        refine wpOpIn_step rfl (fun K hK => ?_)
        go_simp
        refine ⟨trivial, ?_⟩
        refine (CallsIn.inRound l (callsIn_wide.2 (clone_text x.f.path w' hpath))).mono ?_
        rintro e w2 ⟨rfl, hb⟩
        exact hK _ _ ⟨_, _, _, _, _, _, _, _, _, _, _, _, rfl, ⟨fun h => hj.c0 (flag_of (i := 3) (by decide) h), fun h => hj.c1 (flag_of (i := 3) (by decide) h), fun h => hj.c2 (flag_of (i := 3) (by decide) h), fun _ => rfl, fun h => hj.c4 (flag_of (i := 3) (by decide) h), fun h => hj.c5 (flag_of (i := 3) (by decide) h), fun h => hj.c6 (flag_of (i := 3) (by decide) h), fun h => hj.c7 (flag_of (i := 3) (by decide) h), fun h => hj.c8 (flag_of (i := 3) (by decide) h), fun h => hj.c9 (flag_of (i := 3) (by decide) h), fun _ _ => hl.trans (hb.mono hl.size), fun h => absurd (flag_of (i := 3) (by decide) h) (by rw [h10]; exact Bool.false_ne_true), fun h => absurd (flag_of (i := 3) (by decide) h) (by rw [h11]; exact Bool.false_ne_true), fun h => absurd (flag_of (i := 3) (by decide) h) (by rw [h12]; exact Bool.false_ne_true)⟩⟩
      · have h11 : ℓ.getD 11 false = false := Shut.not hi (k := 11) (fun h => hsh.dep (hsh.dep (hsh.dep (hsh.dep h (k := 10) (by kernel_rfl)) (k := 9) (by kernel_rfl)) (k := 5) (by kernel_rfl)) (k := 4) (by kernel_rfl))
        have h12 : ℓ.getD 12 false = false := Shut.not hi (k := 12) (fun h => hsh.dep (hsh.dep (hsh.dep (hsh.dep (hsh.dep h (k := 11) (by kernel_rfl)) (k := 10) (by kernel_rfl)) (k := 9) (by kernel_rfl)) (k := 5) (by kernel_rfl)) (k := 4) (by kernel_rfl))
        have h10 : ℓ.getD 10 false = false := Shut.not hi (k := 10) (fun h => hsh.dep (hsh.dep (hsh.dep h (k := 9) (by kernel_rfl)) (k := 5) (by kernel_rfl)) (k := 4) (by kernel_rfl))
        have hl := hj.low h10 h11
        refine wpOpIn_step rfl (fun K hK => ?_)
        go_simp
        exact hK _ _ ⟨_, _, _, _, _, _, _, _, _, _, _, _, rfl, ⟨fun h => hj.c0 (flag_of (i := 4) (by decide) h), fun h => hj.c1 (flag_of (i := 4) (by decide) h), fun h => hj.c2 (flag_of (i := 4) (by decide) h), fun h => hj.c3 (flag_of (i := 4) (by decide) h), fun _ => rfl, fun h => hj.c5 (flag_of (i := 4) (by decide) h), fun h => hj.c6 (flag_of (i := 4) (by decide) h), fun h => hj.c7 (flag_of (i := 4) (by decide) h), fun h => hj.c8 (flag_of (i := 4) (by decide) h), fun h => hj.c9 (flag_of (i := 4) (by decide) h), fun _ _ => hl, fun h => absurd (flag_of (i := 4) (by decide) h) (by rw [h10]; exact Bool.false_ne_true), fun h => absurd (flag_of (i := 4) (by decide) h) (by rw [h11]; exact Bool.false_ne_true), fun h => absurd (flag_of (i := 4) (by decide) h) (by rw [h12]; exact Bool.false_ne_true)⟩⟩
      · have h11 : ℓ.getD 11 false = false := Shut.not hi (k := 11) (fun h => hsh.dep (hsh.dep (hsh.dep h (k := 10) (by kernel_rfl)) (k := 9) (by kernel_rfl)) (k := 5) (by kernel_rfl))
        have h12 : ℓ.getD 12 false = false := Shut.not hi (k := 12) (fun h => hsh.dep (hsh.dep (hsh.dep (hsh.dep h (k := 11) (by kernel_rfl)) (k := 10) (by kernel_rfl)) (k := 9) (by kernel_rfl)) (k := 5) (by kernel_rfl))
        have e4 := (hj.c4 (ready_dep hi (k := 4) (by kernel_rfl))).symm
        subst e4
        have h10 : ℓ.getD 10 false = false := Shut.not hi (k := 10) (fun h => hsh.dep (hsh.dep h (k := 9) (by kernel_rfl)) (k := 5) (by kernel_rfl))
        have hl := hj.low h10 h11
        have kk := (hl.cell (p := ⟨b, 1, none⟩) hbl).trans k1
        refine wpOpIn_step rfl (fun K hK => ?_)
        go_simp
        exact hK _ _ ⟨_, _, _, _, _, _, _, _, _, _, _, _, rfl, ⟨fun h => hj.c0 (flag_of (i := 5) (by decide) h), fun h => hj.c1 (flag_of (i := 5) (by decide) h), fun h => hj.c2 (flag_of (i := 5) (by decide) h), fun h => hj.c3 (flag_of (i := 5) (by decide) h), fun h => hj.c4 (flag_of (i := 5) (by decide) h), fun _ => rfl, fun h => hj.c6 (flag_of (i := 5) (by decide) h), fun h => hj.c7 (flag_of (i := 5) (by decide) h), fun h => hj.c8 (flag_of (i := 5) (by decide) h), fun h => hj.c9 (flag_of (i := 5) (by decide) h), fun _ _ => hl, fun h => absurd (flag_of (i := 5) (by decide) h) (by rw [h10]; exact Bool.false_ne_true), fun h => absurd (flag_of (i := 5) (by decide) h) (by rw [h11]; exact Bool.false_ne_true), fun h => absurd (flag_of (i := 5) (by decide) h) (by rw [h12]; exact Bool.false_ne_true)⟩⟩
      · have h11 : ℓ.getD 11 false = false := Shut.not hi (k := 11) (fun h => hsh.dep (hsh.dep (hsh.dep (hsh.dep (hsh.dep h (k := 10) (by kernel_rfl)) (k := 9) (by kernel_rfl)) (k := 8) (by kernel_rfl)) (k := 7) (by kernel_rfl)) (k := 6) (by kernel_rfl))
        have h12 : ℓ.getD 12 false = false := Shut.not hi (k := 12) (fun h => hsh.dep (hsh.dep (hsh.dep (hsh.dep (hsh.dep (hsh.dep h (k := 11) (by kernel_rfl)) (k := 10) (by kernel_rfl)) (k := 9) (by kernel_rfl)) (k := 8) (by kernel_rfl)) (k := 7) (by kernel_rfl)) (k := 6) (by kernel_rfl))
        have h10 : ℓ.getD 10 false = false := Shut.not hi (k := 10) (fun h => hsh.dep (hsh.dep (hsh.dep (hsh.dep h (k := 9) (by kernel_rfl)) (k := 8) (by kernel_rfl)) (k := 7) (by kernel_rfl)) (k := 6) (by kernel_rfl))
        have hl := hj.low h10 h11
        refine wpOpIn_step rfl (fun K hK => ?_)
        go_simp
        exact hK _ _ ⟨_, _, _, _, _, _, _, _, _, _, _, _, rfl, ⟨fun h => hj.c0 (flag_of (i := 6) (by decide) h), fun h => hj.c1 (flag_of (i := 6) (by decide) h), fun h => hj.c2 (flag_of (i := 6) (by decide) h), fun h => hj.c3 (flag_of (i := 6) (by decide) h), fun h => hj.c4 (flag_of (i := 6) (by decide) h), fun h => hj.c5 (flag_of (i := 6) (by decide) h), fun _ => rfl, fun h => hj.c7 (flag_of (i := 6) (by decide) h), fun h => hj.c8 (flag_of (i := 6) (by decide) h), fun h => hj.c9 (flag_of (i := 6) (by decide) h), fun _ _ => hl, fun h => absurd (flag_of (i := 6) (by decide) h) (by rw [h10]; exact Bool.false_ne_true), fun h => absurd (flag_of (i := 6) (by decide) h) (by rw [h11]; exact Bool.false_ne_true), fun h => absurd (flag_of (i := 6) (by decide) h) (by rw [h12]; exact Bool.false_ne_true)⟩⟩
      · have h11 : ℓ.getD 11 false = false := Shut.not hi (k := 11) (fun h => hsh.dep (hsh.dep (hsh.dep (hsh.dep h (k := 10) (by kernel_rfl)) (k := 9) (by kernel_rfl)) (k := 8) (by kernel_rfl)) (k := 7) (by kernel_rfl))
        have h12 : ℓ.getD 12 false = false := Shut.not hi (k := 12) (fun h => hsh.dep (hsh.dep (hsh.dep (hsh.dep (hsh.dep h (k := 11) (by kernel_rfl)) (k := 10) (by kernel_rfl)) (k := 9) (by kernel_rfl)) (k := 8) (by kernel_rfl)) (k := 7) (by kernel_rfl))
        have e6 := (hj.c6 (ready_dep hi (k := 6) (by kernel_rfl))).symm
        subst e6
        have h10 : ℓ.getD 10 false = false := Shut.not hi (k := 10) (fun h => hsh.dep (hsh.dep (hsh.dep h (k := 9) (by kernel_rfl)) (k := 8) (by kernel_rfl)) (k := 7) (by kernel_rfl))
        have hl := hj.low h10 h11
        have kk := (hl.cell (p := ⟨b, 2, none⟩) hbl).trans k2
        refine wpOpIn_step rfl (fun K hK => ?_)
        go_simp
        exact hK _ _ ⟨_, _, _, _, _, _, _, _, _, _, _, _, rfl, ⟨fun h => hj.c0 (flag_of (i := 7) (by decide) h), fun h => hj.c1 (flag_of (i := 7) (by decide) h), fun h => hj.c2 (flag_of (i := 7) (by decide) h), fun h => hj.c3 (flag_of (i := 7) (by decide) h), fun h => hj.c4 (flag_of (i := 7) (by decide) h), fun h => hj.c5 (flag_of (i := 7) (by decide) h), fun h => hj.c6 (flag_of (i := 7) (by decide) h), fun _ => rfl, fun h => hj.c8 (flag_of (i := 7) (by decide) h), fun h => hj.c9 (flag_of (i := 7) (by decide) h), fun _ _ => hl, fun h => absurd (flag_of (i := 7) (by decide) h) (by rw [h10]; exact Bool.false_ne_true), fun h => absurd (flag_of (i := 7) (by decide) h) (by rw [h11]; exact Bool.false_ne_true), fun h => absurd (flag_of (i := 7) (by decide) h) (by rw [h12]; exact Bool.false_ne_true)⟩⟩
      · have h11 : ℓ.getD 11 false = false := Shut.not hi (k := 11) (fun h => hsh.dep (hsh.dep (hsh.dep h (k := 10) (by kernel_rfl)) (k := 9) (by kernel_rfl)) (k := 8) (by kernel_rfl))
        have h12 : ℓ.getD 12 false = false := Shut.not hi (k := 12) (fun h => hsh.dep (hsh.dep (hsh.dep (hsh.dep h (k := 11) (by kernel_rfl)) (k := 10) (by kernel_rfl)) (k := 9) (by kernel_rfl)) (k := 8) (by kernel_rfl))
        have e7 := (hj.c7 (ready_dep hi (k := 7) (by kernel_rfl))).symm
        have e3 := (hj.c3 (ready_dep hi (k := 3) (by kernel_rfl))).symm
        subst e7 e3
        have h10 : ℓ.getD 10 false = false := Shut.not hi (k := 10) (fun h => hsh.dep (hsh.dep h (k := 9) (by kernel_rfl)) (k := 8) (by kernel_rfl))
        have hl := hj.low h10 h11
        refine wpOpIn_step rfl (fun K hK => ?_)
        go_simp
        obtain ⟨lx, hr1, hr2⟩ := hrope
        refine ⟨trivial, ?_⟩
        refine (CallsIn.inRound l (callsIn_wide.2 (rope_few.text_is (hr1.below hl)))).mono ?_
        rintro e w2 ⟨rfl, hb⟩
        rw [← hr2]
        exact hK _ _ ⟨_, _, _, _, _, _, _, _, _, _, _, _, rfl, ⟨fun h => hj.c0 (flag_of (i := 8) (by decide) h), fun h => hj.c1 (flag_of (i := 8) (by decide) h), fun h => hj.c2 (flag_of (i := 8) (by decide) h), fun h => hj.c3 (flag_of (i := 8) (by decide) h), fun h => hj.c4 (flag_of (i := 8) (by decide) h), fun h => hj.c5 (flag_of (i := 8) (by decide) h), fun h => hj.c6 (flag_of (i := 8) (by decide) h), fun h => hj.c7 (flag_of (i := 8) (by decide) h), fun _ => rfl, fun h => hj.c9 (flag_of (i := 8) (by decide) h), fun _ _ => hl.trans (hb.mono hl.size), fun h => absurd (flag_of (i := 8) (by decide) h) (by rw [h10]; exact Bool.false_ne_true), fun h => absurd (flag_of (i := 8) (by decide) h) (by rw [h11]; exact Bool.false_ne_true), fun h => absurd (flag_of (i := 8) (by decide) h) (by rw [h12]; exact Bool.false_ne_true)⟩⟩
      · have h11 : ℓ.getD 11 false = false := Shut.not hi (k := 11) (fun h => hsh.dep (hsh.dep h (k := 10) (by kernel_rfl)) (k := 9) (by kernel_rfl))
        have h12 : ℓ.getD 12 false = false := Shut.not hi (k := 12) (fun h => hsh.dep (hsh.dep (hsh.dep h (k := 11) (by kernel_rfl)) (k := 10) (by kernel_rfl)) (k := 9) (by kernel_rfl))
        have e3 := (hj.c3 (ready_dep hi (k := 3) (by kernel_rfl))).symm
        have e5 := (hj.c5 (ready_dep hi (k := 5) (by kernel_rfl))).symm
        have e8 := (hj.c8 (ready_dep hi (k := 8) (by kernel_rfl))).symm
        subst e3 e5 e8
        have h10 : ℓ.getD 10 false = false := Shut.not hi (k := 10) (fun h => hsh.dep h (k := 9) (by kernel_rfl))
        have hl := hj.low h10 h11
        refine wpOpIn_step rfl (fun K hK => ?_)
        go_simp
        exact hK _ _ ⟨_, _, _, _, _, _, _, _, _, _, _, _, rfl, ⟨fun h => hj.c0 (flag_of (i := 9) (by decide) h), fun h => hj.c1 (flag_of (i := 9) (by decide) h), fun h => hj.c2 (flag_of (i := 9) (by decide) h), fun h => hj.c3 (flag_of (i := 9) (by decide) h), fun h => hj.c4 (flag_of (i := 9) (by decide) h), fun h => hj.c5 (flag_of (i := 9) (by decide) h), fun h => hj.c6 (flag_of (i := 9) (by decide) h), fun h => hj.c7 (flag_of (i := 9) (by decide) h), fun h => hj.c8 (flag_of (i := 9) (by decide) h), fun _ => rfl, fun _ _ => hl, fun h => absurd (flag_of (i := 9) (by decide) h) (by rw [h10]; exact Bool.false_ne_true), fun h => absurd (flag_of (i := 9) (by decide) h) (by rw [h11]; exact Bool.false_ne_true), fun h => absurd (flag_of (i := 9) (by decide) h) (by rw [h12]; exact Bool.false_ne_true)⟩⟩
      · have h11 : ℓ.getD 11 false = false := Shut.not hi (k := 11) (fun h => hsh.dep h (k := 10) (by kernel_rfl))
        have h12 : ℓ.getD 12 false = false := Shut.not hi (k := 12) (fun h => hsh.dep (hsh.dep h (k := 11) (by kernel_rfl)) (k := 10) (by kernel_rfl))
        have e9 := (hj.c9 (ready_dep hi (k := 9) (by kernel_rfl))).symm
        subst e9
        have hl := hj.low hun h11
        refine wpOpIn_step rfl (fun K hK => ?_)
        go_simp
        exact hK _ _ ⟨_, _, _, _, _, _, _, _, _, _, _, _, rfl, ⟨fun h => hj.c0 (flag_of (i := 10) (by decide) h), fun h => hj.c1 (flag_of (i := 10) (by decide) h), fun h => hj.c2 (flag_of (i := 10) (by decide) h), fun h => hj.c3 (flag_of (i := 10) (by decide) h), fun h => hj.c4 (flag_of (i := 10) (by decide) h), fun h => hj.c5 (flag_of (i := 10) (by decide) h), fun h => hj.c6 (flag_of (i := 10) (by decide) h), fun h => hj.c7 (flag_of (i := 10) (by decide) h), fun h => hj.c8 (flag_of (i := 10) (by decide) h), fun h => hj.c9 (flag_of (i := 10) (by decide) h), fun h => absurd h (by rw [flag_now (by rw [hs]; decide)]; exact fun e => by cases e), fun _ _ => ⟨_, hl, rfl, rfl⟩, fun h => absurd (flag_of (i := 10) (by decide) h) (by rw [h11]; exact Bool.false_ne_true), fun h => absurd (flag_of (i := 10) (by decide) h) (by rw [h12]; exact Bool.false_ne_true)⟩⟩
      · have h12 : ℓ.getD 12 false = false := Shut.not hi (k := 12) (fun h => hsh.dep h (k := 11) (by kernel_rfl))
        have e0 := (hj.c0 (ready_dep hi (k := 0) (by kernel_rfl))).symm
        have e8 := (hj.c8 (ready_dep hi (k := 8) (by kernel_rfl))).symm
        subst e0 e8
        obtain ⟨w9, q1, q2, e10⟩ := hj.mid (ready_dep hi (k := 10) (by kernel_rfl)) hun
        subst q2
        subst e10
        have hown9 : (w9.alloc (.cells #[Value.string x.f.path, .int .i64 x.f.ver, .string x.f.text] 49)).ownsRow w.heap.size 49 3 rv pre.length (rowF (unS pre)) := ownsRow_turned hown ((Turned.of_below (S := fun _ => False) q1).trans (Turned.of_below (S := fun _ => False) ((Below.refl w9.heap.size w9).alloc (Nat.le_refl _) _)) (fun _ _ h => h)) (fun _ _ h => h)
        obtain ⟨v', w11, hap, hown', hgrow, _⟩ := run_append_raw elem_afile hown9 (some ⟨w9.heap.size, 0, none⟩) 1 1 #[Value.string x.f.path, .int .i64 x.f.ver, .string x.f.text].toList (.inr ⟨w9.heap.size, 0, rfl, fun j u hu => by
          rw [Nat.zero_add, obj_cell (heap_alloc_new w9 _) j]
          simpa using hu⟩) rfl (by intro u hu; simp at hu; rcases hu with rfl | rfl | rfl <;> rfl) (by omega) (by have := q1.size; simp; omega)
        refine wpOpIn_append rfl rfl _ _ _ rfl rfl rfl hap ?_
        exact ⟨_, _, _, _, _, _, _, _, _, _, _, _, rfl, ⟨fun h => hj.c0 (flag_of (i := 11) (by decide) h), fun h => hj.c1 (flag_of (i := 11) (by decide) h), fun h => hj.c2 (flag_of (i := 11) (by decide) h), fun h => hj.c3 (flag_of (i := 11) (by decide) h), fun h => hj.c4 (flag_of (i := 11) (by decide) h), fun h => hj.c5 (flag_of (i := 11) (by decide) h), fun h => hj.c6 (flag_of (i := 11) (by decide) h), fun h => hj.c7 (flag_of (i := 11) (by decide) h), fun h => hj.c8 (flag_of (i := 11) (by decide) h), fun h => hj.c9 (flag_of (i := 11) (by decide) h), fun _ h => absurd h (by rw [flag_now (by rw [hs]; decide)]; exact fun e => by cases e), fun _ h => absurd h (by rw [flag_now (by rw [hs]; decide)]; exact fun e => by cases e), fun _ _ => ⟨w9, q1, hown', hgrow⟩, fun h => absurd (flag_of (i := 11) (by decide) h) (by rw [h12]; exact Bool.false_ne_true)⟩⟩
      · have ha := ready_dep hi (k := 11) (by kernel_rfl)
        obtain ⟨w9, q1, hown', hgrow⟩ := hj.hi ha hun
        have hbox9 : Boxed (w9.alloc (.cells #[Value.string x.f.path, .int .i64 x.f.ver, .string x.f.text] 49)) B 30 rv := Boxed.alloc ((q1.block B hB).trans hbox) _
        have hown9 : (w9.alloc (.cells #[Value.string x.f.path, .int .i64 x.f.ver, .string x.f.text] 49)).ownsRow w.heap.size 49 3 rv pre.length (rowF (unS pre)) := ownsRow_turned hown ((Turned.of_below (S := fun _ => False) q1).trans (Turned.of_below (S := fun _ => False) ((Below.refl w9.heap.size w9).alloc (Nat.le_refl _) _)) (fun _ _ h => h)) (fun _ _ h => h)
        have hbox11 : Boxed w' B 30 rv := hbox9.kept hgrow (hbox9.not_row (by decide) hown9)
        have kb1 := hbox11.cell
        have kf1 := hbox11.frozen
        obtain ⟨g, cap, ev⟩ := ownsRow_succ hown'
        subst ev
        refine wpOpIn_step rfl (fun K hK => ?_)
        go_simp
        exact hK _ _ ⟨_, _, _, _, _, _, _, _, _, _, _, _, rfl, ⟨fun h => hj.c0 (flag_of (i := 12) (by decide) h), fun h => hj.c1 (flag_of (i := 12) (by decide) h), fun h => hj.c2 (flag_of (i := 12) (by decide) h), fun h => hj.c3 (flag_of (i := 12) (by decide) h), fun h => hj.c4 (flag_of (i := 12) (by decide) h), fun h => hj.c5 (flag_of (i := 12) (by decide) h), fun h => hj.c6 (flag_of (i := 12) (by decide) h), fun h => hj.c7 (flag_of (i := 12) (by decide) h), fun h => hj.c8 (flag_of (i := 12) (by decide) h), fun h => hj.c9 (flag_of (i := 12) (by decide) h), fun _ h => absurd (flag_keep ha) (by rw [h]; exact Bool.false_ne_true), fun _ h => absurd (flag_keep ha) (by rw [h]; exact Bool.false_ne_true), fun _ h => absurd h (by rw [flag_now (by rw [hs]; decide)]; exact fun e => by cases e), fun _ => ⟨w9, w', _, q1, hown', hgrow, rfl⟩⟩⟩
    · rintro ℓ a' w' ⟨x11, x12, x13, x14, x15, x16, x17, x18, x19, x20, x21, x22, rfl, hj⟩ hall
      obtain ⟨w9, w11, v', q1, q2, q3, rfl⟩ := hj.fin (hall 12 (by decide))
      obtain ⟨r1, r2, r3, r4, r5, r6⟩ := box_pushed (fun k t => k ≠ B ∧ (k < w.heap.size ∨ t ≠ 49)) (by decide) rfl (Nat.le_refl _) hbox hown hB0 hw q1 q2 q3 (fun _ _ h => h)
      exact ⟨r2, r3, ⟨_, r4, own_push r5, trivial⟩, r6⟩
  case done =>
    rintro ys W hys ⟨⟨v, hbox, hown, _⟩, hw⟩ hD
    have hyx : unS ys = xs := hys.trans (seq_all xs)
    have hyl : ys.length = xs.length := by rw [← hyx]; simp [unS]
    rw [hyx, hyl] at hown
    obtain ⟨LA, cc, rfl, _, _, _⟩ := own_form hown
    have kb := hbox.cell
    have HOWN := Lib.hid hown
    have HW := Lib.hid hw
    have HD := Lib.hid hD
    clear hown hw hD hbox hys hyx hyl
    gi_wp2_with fail
    refine ⟨by simp, .inl ⟨_, _, rfl, run_takeDeferred HD.out, ?_⟩⟩
    refine ⟨_, results_tmp rfl _ _ _, _, rfl, ?_, ?_⟩
    · unfold FilesOwn
      rw [List.length_map]
      exact ownsRow_putObj HOWN.out _ HD.out rfl
    · exact HW.out.trans (belowK_b (w := w) (Nat.le_refl _) _ _ _ _ HB4.out.size HD.out rfl rfl)
  case stop =>
    intro c pre W _ h _
    exact h.elim
end Go.Proofs.Ytcjbhjbjkfgphaa

namespace Go.Proofs.Ytcjbhjbjkfgphaa
open Go.RowKit Go.Deep Go.Shelf

attribute [local go_sem] Oper.semAt_some

structure SJ (ℓ : Array Bool) (wr : World) (m0 B : Nat) (rv : Value) (vs : List Value) (m b : Nat) (x : FX) (x17 x18 x19 x20 x21 x22 : Value) (w : World) : Prop where
  c0 : ℓ.getD 0 false = true → x17 = rv
  c1 : ℓ.getD 1 false = true → x18 = .pointer (some ⟨b, 0, none⟩)
  c2 : ℓ.getD 2 false = true → x19 = .string x.f.path
  c3 : ℓ.getD 3 false = true → x20 = .string x.f.path
  low : ℓ.getD 4 false = false → ℓ.getD 5 false = false → Below wr.heap.size wr w
  mid : ℓ.getD 4 false = true → ℓ.getD 5 false = false → ∃ w9, Below wr.heap.size wr w9 ∧ w = w9.alloc (.cells #[Value.string x.f.path] 9) ∧ x21 = .slice (some ⟨w9.heap.size, 0, none⟩) 1 1
  hi : ℓ.getD 5 false = true → ℓ.getD 6 false = false → ∃ w9, Below wr.heap.size wr w9 ∧ w.ownsRow m0 9 1 x22 (m + 1) (vs ++ #[Value.string x.f.path].toList) ∧ (w9.alloc (.cells #[Value.string x.f.path] 9)).grownBy w rv.ownBlock
  fin : ℓ.getD 6 false = true → ∃ w9 w11 v', Below wr.heap.size wr w9 ∧ w11.ownsRow m0 9 1 v' (m + 1) (vs ++ #[Value.string x.f.path].toList) ∧ (w9.alloc (.cells #[Value.string x.f.path] 9)).grownBy w11 rv.ownBlock ∧ w = w11.setCell ⟨B, 0, none⟩ v'
def rowS (pre : List FX) : List Value := pre.map fun x => Value.string x.f.path
def Lesser (tq : ByteArray) (pre : List FX) : Prop := ∀ x ∈ pre, pless x.f.path tq = true
def ScanI (w : World) (B Bt : Nat) (tq : ByteArray) (pre : List (FS w)) (W : World) : Prop :=
  (∃ v, Boxed W B 46 v ∧ W.ownsRow (B + 3) 9 1 v pre.length (rowS (unS pre)) ∧ True) ∧ Boxed W Bt 9 (.string tq) ∧ Below w.heap.size w W ∧ Lesser tq (unS pre)
def ScanX (w : World) (B Bt : Nat) (tq : ByteArray) (c : Code) (pre : List (FS w)) (W : World) : Prop := c = .exit 0 ∧ ∃ q x, pre = q ++ [x] ∧ ScanI w B Bt tq q W ∧ pless x.1.f.path tq = false
theorem boxed_own {β : Type} (B : Nat) (t : TypeId) (v : Value) : Own (fun (_ : β) W => Boxed W B t v) := fun s W W' row h hg hr => h.kept hg fun e => by
  obtain ⟨o, ho, hc⟩ := hr B e.symm
  rw [show W.heap[B]? = _ from h] at ho
  cases ho
  cases hc
theorem scanI_own (w : World) (B Bt : Nat) (tq : ByteArray) (M : Nat) (hM : w.heap.size ≤ M) : OwnFrom M (ScanI w B Bt tq) :=
  OwnFrom.and ((holdsRow_own (B + 3) B 46 9 1 (fun pre : List (FS w) => pre.length) (fun pre => rowS (unS pre)) (fun _ _ => True)).from M) (OwnFrom.and ((boxed_own Bt _ _).from M) (OwnFrom.and (ownFrom_below (Nat.le_refl _) hM) (fun _ _ _ _ h _ _ => h)))
theorem scanX_own (w : World) (B Bt : Nat) (tq : ByteArray) (M : Nat) (hM : w.heap.size ≤ M) (c : Code) : OwnFrom M (ScanX w B Bt tq c) := by
  rintro s A A' row ⟨h1, q, x, h2, h3, h4⟩ hg hr
  exact ⟨h1, q, x, h2, scanI_own w B Bt tq M hM q A A' row h3 hg hr, h4⟩
theorem own_pushS {w W : World} {base : Nat} {v : Value} {pre : List (FS w)} {x : FX} {hx : FXok w x} (h : W.ownsRow base 9 1 v (pre.length + 1) (rowS (unS pre) ++ #[Value.string x.f.path].toList)) : W.ownsRow base 9 1 v (pre ++ [(⟨x, hx⟩ : FS w)]).length (rowS (unS (pre ++ [(⟨x, hx⟩ : FS w)]))) := by
  rw [show rowS (unS (pre ++ [(⟨x, hx⟩ : FS w)])) = rowS (unS pre) ++ #[Value.string x.f.path].toList by simp [rowS, unS], List.length_append]
  exact h
theorem less_push {w : World} {tq : ByteArray} {pre : List (FS w)} {x : FX} {hx : FXok w x} (h : Lesser tq (unS pre)) (hl : pless x.f.path tq = true) : Lesser tq (unS (pre ++ [(⟨x, hx⟩ : FS w)])) := by
  intro y hy
  have e : unS (pre ++ [(⟨x, hx⟩ : FS w)]) = unS pre ++ [x] := by simp [unS]
  rw [e] at hy
  rcases List.mem_append.1 hy with hy | hy
  · exact h y hy
  · rw [List.mem_singleton.1 hy]
    exact hl
theorem scan_all {xs : List FX} {fq tq : ByteArray} (h : Lesser tq (SeqX xs fq)) : (xs.filter fun x => between fq tq x.f.path) = SeqX xs fq := by
  unfold SeqX
  apply List.filter_congr
  intro x hx
  unfold between geX
  cases hp : pless x.f.path fq with
  | true => rfl
  | false =>
    have := h x (List.mem_filter.2 ⟨hx, by unfold geX; rw [hp]; rfl⟩)
    rw [this]
    rfl
theorem scan_some {xs : List FX} {fq tq : ByteArray} {q r : List FX} {x : FX} (hr : RisingX xs) (e : SeqX xs fq = q ++ x :: r) (h : Lesser tq q) (hx : pless x.f.path tq = false) : (xs.filter fun x => between fq tq x.f.path) = q := by
  have e1 : (xs.filter fun x => between fq tq x.f.path) = (SeqX xs fq).filter fun x => pless x.f.path tq := by
    unfold SeqX
    rw [List.filter_filter]
    apply List.filter_congr
    intro y _
    unfold between geX
    rw [Bool.and_comm]
  have hs : RisingX (SeqX xs fq) := by
    have h1 := rising_sub (fun f => !pless f.path fq) hr
    rw [List.filter_map] at h1
    exact h1
  rw [e] at hs
  rw [e1, e, List.filter_append, List.filter_cons_of_neg (by rw [hx]; simp), List.filter_eq_self.2 (fun y hy => h y hy), List.filter_eq_nil_iff.2 (fun y hy hy2 => ?_), List.append_nil]
  have h1 := (RisingX.split (a := q ++ [x]) (b := r) (by simpa using hs)).2.2 x (by simp) y hy
  have h2 := pless_trans h1 hy2
  rw [hx] at h2
  cases h2
theorem rowS_strs (xs : List FX) : rowS xs = strsV (xs.map fun x => x.f.path.data.toList) := by
  unfold rowS strsV
  rw [List.map_map]
  apply List.map_congr_left
  intro x _
  simp [txt_of]
theorem strs_new {w W : World} {v : Value} {xs q : List FX} {fq tq : ByteArray} (e : (xs.filter fun x => between fq tq x.f.path) = q) (h : W.ownsRow w.heap.size 9 1 v q.length (rowS q)) : StrsOwn W w.heap.size v (((xs.map (·.f)).filter fun f => between fq tq f.path).map fun f => f.path.data.toList) := by
  have e2 : (((xs.map (·.f)).filter fun f => between fq tq f.path).map fun f => f.path.data.toList) = q.map fun x => x.f.path.data.toList := by
    rw [← e, List.filter_map, List.map_map]
    rfl
  rw [e2]
  unfold StrsOwn
  rw [List.length_map, ← rowS_strs]
  exact h
set_option maxRecDepth 100000 in
set_option maxHeartbeats 8000000 in
theorem scan_tree {w : World} {p : Option Addr} {fs : List FileM} (fq tq : ByteArray) (h : TreeIs w p fs) : Calls Try.prog 19 #[.pointer p, .string fq, .string tq] w (StrsNew ((fs.filter fun f => between fq tq f.path).map fun f => f.path.data.toList) w) := by
  obtain ⟨xs, r, rfl, hg, hroot, htop⟩ := h.top
  refine (callsIn_wide (n := 4)).1 ?_
  have HG := Lib.hid hg
  have HROOT := Lib.hid hroot
  have HTOP := Lib.hid htop
  clear hg hroot htop h
  refine callsIn_of_wp_marks Try.func19 rfl trivial ?_ rfl
  simp only [Try.ntmps19, List.size_toArray, List.length_cons, List.length_nil, Nat.reduceAdd, Nat.reduceSub, Array.replicate_succ, Array.replicate_zero, List.push_toArray, List.append_toArray, List.nil_append, List.cons_append]
  gi_wp2_with fail
  refine ⟨trivial, ?_⟩
  gi_at_call 34
  (with_reducible refine (from_is _ p fq _).mono ?_)
  rintro e w4 ⟨rfl, hw4⟩
  obtain ⟨Bt, eBt⟩ : ∃ Bt, Bt = w.heap.size := ⟨_, rfl⟩
  obtain ⟨B, eB⟩ : ∃ B, B = w.heap.size + 1 := ⟨_, rfl⟩
  obtain ⟨w3, ew3⟩ : ∃ w3, w3 = (w.alloc (.cells #[.string tq] 9)).alloc (.cells #[.slice none 0 0] 46) := ⟨_, rfl⟩
  rw [← ew3] at hw4
  rw [← ew3]
  have hz3 : w3.heap.size = B + 1 := by rw [ew3, eB]; simp
  have h3 : Below w.heap.size w w3 := by rw [ew3]; exact ((Below.refl _ w).alloc (Nat.le_refl _) _).alloc (by simp) _
  have hbt3 : Boxed w3 Bt 9 (.string tq) := by rw [ew3, eBt]; exact (Boxed.new w _ _).alloc _
  have hbx3 : Boxed w3 B 46 (.slice none 0 0) := by
    rw [ew3, eB]
    have h := Boxed.new (w.alloc (.cells #[.string tq] 9)) 46 (.slice none 0 0)
    simpa only [World.size_alloc] using h
  have hT4 : w4.heap[w3.heap.size]? = some (.cells #[.pointer p] 29) := by
    rw [hw4]
    exact (heap_alloc_old _ _ _ (by simp)).trans (heap_alloc_new w3 _)
  have h14 : w4.heap[w3.heap.size + 1]? = some (.cells #[.string fq] 9) := by
    rw [hw4]
    have h := heap_alloc_new (w3.alloc (.cells #[.pointer p] 29)) (.cells #[.string fq] 9)
    simpa only [World.size_alloc] using h
  have hs4 : w4.heap.size = B + 3 := by rw [hw4]; simp [hz3]
  have hb4 : Below w.heap.size w w4 := by rw [hw4]; exact (h3.alloc h3.size _).alloc (by simp; have := h3.size; omega) _
  have hI4 : ScanI w B Bt tq [] w4 :=
    ⟨⟨_, by rw [hw4]; exact (hbx3.alloc _).alloc _, World.ownsRow_nil _ _ _ _, trivial⟩, by rw [hw4]; exact (hbt3.alloc _).alloc _, hb4, fun x hx => by cases hx⟩
  rw [hz3] at hT4 h14 ⊢
  have HT4 := Lib.hid hT4
  have H14 := Lib.hid h14
  have HS4 := Lib.hid hs4
  have HB4 := Lib.hid hb4
  have HI4 := Lib.hid hI4
  have hB0 : w.heap.size ≤ B := by omega
  have hBt : Bt < B := by omega
  rw [← eBt, show Bt + 1 = B by omega]
  clear eB eBt ew3 h3 hbx3 hbt3 hz3 hw4 hT4 h14 hs4 hb4 hI4
  gi_wp2_with fail
  refine range_boxed (n := 4) (by omega) (gf := 45) (lb := #[.pointer (some ⟨B + 1 + 1, 0, none⟩), .pointer (some ⟨B + 1, 0, none⟩)]) rfl (enters_of Try.func45 (by kernel_rfl) rfl)
    (seq_tree (FXok w) 3 (B + 1 + 1) (B + 1) w w4 (fun k t => k ≠ B ∧ (k < B + 3 ∨ t ≠ 9)) fq p r _ xs HB4.out H14.out HT4.out ⟨by omega, .inl (by omega)⟩ (fun k hk => ⟨by have := HS4.out; omega, .inr (by decide)⟩) (fun k hk => ⟨by have := HS4.out; omega, .inr (by decide)⟩) HTOP.out HROOT.out HG.out.rise (good_ok HG.out))
    (Below.refl _ _) (fun _ => rfl) (fun h k => h.trans k) (fun W l o o' h1 h2 h3 h4 => Kp.put HB4.out.size W l o o' h1 h2 h3 h4) (fun W o h => Kp.of_below ((Below.refl _ W).alloc (Nat.le_refl _) o) (Nat.le_trans HB4.out.size h))
    (ScanI w B Bt tq) (ScanX w B Bt tq) (scanI_own w B Bt tq _ HB4.out.size) (scanX_own w B Bt tq _ HB4.out.size) HI4.out
    (fun (⟨x, _⟩ : FS w) b => { tmps := #[.pointer p, .string fq, .string tq, undef, undef, .pointer (some ⟨Bt, 0, none⟩), .slice none 0 0, .pointer (some ⟨B, 0, none⟩), .pointer (some ⟨b, 0, none⟩), .pointer p, .string fq, .func (.func 45) #[] #[.pointer (some ⟨B + 1 + 1, 0, none⟩), .pointer (some ⟨B + 1, 0, none⟩)], .agg #[.string x.f.path, .int .i64 x.f.ver, .pointer x.q], undef, undef, undef, undef, undef, undef, undef, undef, undef, undef, undef], defers := [] })
    (fun (⟨x, _⟩ : FS w) => .cells #[.string x.f.path, .int .i64 x.f.ver, .pointer x.q] 68) (fun _ => rfl) ?assign ?body ?done ?stop
  case assign =>
    rintro l ⟨x, _⟩ W K hK
    dsimp only
    rw [show encF x = #[.agg #[.string x.f.path, .int .i64 x.f.ver, .pointer x.q]] from rfl]
    gi_wp2
    exact hK
  case body =>
    rintro l pre ⟨x, hx⟩ b wr ⟨⟨rv, hbox, hown, _⟩, hbt, hw, hall0⟩ hlen hbM hob
    obtain ⟨hp32, hrope0⟩ := hx
    have hpath : x.f.path.size ≤ 281474976710656 := by omega
    have hB : B < wr.heap.size := hbox.lt
    have hm0 : B + 3 ≤ wr.heap.size := by
      dsimp only at hob
      have := (Array.getElem?_eq_some_iff.1 hob).1
      have := HS4.out
      omega
    have hm : pre.length ≤ 1048576 := by
      have h1 := (List.filter_sublist (p := geX fq) (l := xs)).length_le
      have h2 := HG.out.few
      have h3 : (SeqX xs fq).length = (xs.filter (geX fq)).length := rfl
      omega
    dsimp only at hob ⊢
    have kpath : wr.cell? ⟨b, 0, none⟩ = some (.string x.f.path) := obj_cell hob 0
    have kb := hbox.cell
    have kt := hbt.cell
    cases ecmp : Op.bytesLess x.f.path.toList tq.toList with
    | false =>
      have HX := Lib.hid (show ScanX w B Bt tq (.exit 0) (pre ++ [(⟨x, ⟨hp32, hrope0⟩⟩ : FS w)]) wr from ⟨rfl, pre, _, rfl, ⟨⟨rv, hbox, hown, trivial⟩, hbt, hw, hall0⟩, ecmp⟩)
      clear hbox hown hbt hw hall0 hob
      gi_wp2_with fail
      exact ⟨KeepsOthers.refl _, HX.out⟩
    | true =>
      have hless : pless x.f.path tq = true := ecmp
      have HX := Lib.hid hless
      gi_wp2_with fail
      have k0 := obj_cell hob 0
      simp at k0
      have hbl : b < wr.heap.size := (Array.getElem?_eq_some_iff.1 hob).1
      refine wpIn_region_inv (fun ℓ a' w' => ∃ x17 x18 x19 x20 x21 x22, a' = { tmps := #[.pointer p, .string fq, .string tq, undef, undef, .pointer (some ⟨Bt, 0, none⟩), .slice none 0 0, .pointer (some ⟨B, 0, none⟩), .pointer (some ⟨b, 0, none⟩), .pointer p, .string fq, .func (.func 45) #[] #[.pointer (some ⟨B + 1 + 1, 0, none⟩), .pointer (some ⟨B + 1, 0, none⟩)], .agg #[.string x.f.path, .int .i64 x.f.ver, .pointer x.q], .pointer (some ⟨b, 0, none⟩), .string x.f.path, .string tq, .bool false, x17, x18, x19, x20, x21, x22, undef], defers := [] } ∧ SJ ℓ wr (B + 3) B rv (rowS (unS pre)) pre.length b x x17 x18 x19 x20 x21 x22 w') (by kernel_rfl) (by kernel_rfl) ?_ ?_ ?_
      · refine ⟨_, _, _, _, _, _, rfl, ?_⟩
        have hno : ∀ k, (Array.replicate 7 false).getD k false = true → False := fun k h => by rw [getD_replicate_false] at h; cases h
        exact ⟨fun h => (hno _ h).elim, fun h => (hno _ h).elim, fun h => (hno _ h).elim, fun h => (hno _ h).elim, fun _ _ => (Below.refl _ wr).drew, fun h => (hno _ h).elim, fun h => (hno _ h).elim, fun h => (hno _ h).elim⟩
      · rintro ℓ a' w' i ⟨x17, x18, x19, x20, x21, x22, rfl, hj⟩ hs hsh hi
        have hin : i < 7 := by
          obtain ⟨_, o, ho, _⟩ := mem_ready.1 hi
          exact (Array.getElem?_eq_some_iff.1 ho).1
        have hun := getD_both (mem_ready.1 hi).1
        rcases (show i = 0 ∨ i = 1 ∨ i = 2 ∨ i = 3 ∨ i = 4 ∨ i = 5 ∨ i = 6 by omega) with rfl | rfl | rfl | rfl | rfl | rfl | rfl
        · have h5 : ℓ.getD 5 false = false := Shut.not hi (k := 5) (fun h => hsh.dep h (k := 0) (by kernel_rfl))
          have h6 : ℓ.getD 6 false = false := Shut.not hi (k := 6) (fun h => hsh.dep (hsh.dep h (k := 5) (by kernel_rfl)) (k := 0) (by kernel_rfl))
          have hl : Below wr.heap.size wr w' := by
            by_cases ha : ℓ.getD 4 false = true
            · obtain ⟨w9, q1, q2, _⟩ := hj.mid ha h5
              rw [q2]
              exact q1.alloc q1.size _
            · exact hj.low (by simpa using ha) h5
          have kk := (hl.cell (p := ⟨B, 0, none⟩) hB).trans kb
          refine wpOpIn_step rfl (fun K hK => ?_)
          go_simp
          exact hK _ _ ⟨_, _, _, _, _, _, rfl, ⟨fun _ => rfl, fun h => hj.c1 (flag_of (i := 0) (by decide) h), fun h => hj.c2 (flag_of (i := 0) (by decide) h), fun h => hj.c3 (flag_of (i := 0) (by decide) h), fun h h' => hj.low (by rwa [getD_set_ne false (by decide)] at h) (by rwa [getD_set_ne false (by decide)] at h'), fun h h' => hj.mid (flag_of (i := 0) (by decide) h) (by rwa [getD_set_ne false (by decide)] at h'), fun h => absurd (flag_of (i := 0) (by decide) h) (by rw [h5]; exact Bool.false_ne_true), fun h => absurd (flag_of (i := 0) (by decide) h) (by rw [h6]; exact Bool.false_ne_true)⟩⟩
        · have h5 : ℓ.getD 5 false = false := Shut.not hi (k := 5) (fun h => hsh.dep (hsh.dep (hsh.dep (hsh.dep h (k := 4) (by kernel_rfl)) (k := 3) (by kernel_rfl)) (k := 2) (by kernel_rfl)) (k := 1) (by kernel_rfl))
          have h6 : ℓ.getD 6 false = false := Shut.not hi (k := 6) (fun h => hsh.dep (hsh.dep (hsh.dep (hsh.dep (hsh.dep h (k := 5) (by kernel_rfl)) (k := 4) (by kernel_rfl)) (k := 3) (by kernel_rfl)) (k := 2) (by kernel_rfl)) (k := 1) (by kernel_rfl))
          have h4 : ℓ.getD 4 false = false := Shut.not hi (k := 4) (fun h => hsh.dep (hsh.dep (hsh.dep h (k := 3) (by kernel_rfl)) (k := 2) (by kernel_rfl)) (k := 1) (by kernel_rfl))
          have hl := hj.low h4 h5
          refine wpOpIn_step rfl (fun K hK => ?_)
          go_simp
          exact hK _ _ ⟨_, _, _, _, _, _, rfl, ⟨fun h => hj.c0 (flag_of (i := 1) (by decide) h), fun _ => rfl, fun h => hj.c2 (flag_of (i := 1) (by decide) h), fun h => hj.c3 (flag_of (i := 1) (by decide) h), fun _ _ => hl, fun h => absurd (flag_of (i := 1) (by decide) h) (by rw [h4]; exact Bool.false_ne_true), fun h => absurd (flag_of (i := 1) (by decide) h) (by rw [h5]; exact Bool.false_ne_true), fun h => absurd (flag_of (i := 1) (by decide) h) (by rw [h6]; exact Bool.false_ne_true)⟩⟩
        · have h5 : ℓ.getD 5 false = false := Shut.not hi (k := 5) (fun h => hsh.dep (hsh.dep (hsh.dep h (k := 4) (by kernel_rfl)) (k := 3) (by kernel_rfl)) (k := 2) (by kernel_rfl))
          have h6 : ℓ.getD 6 false = false := Shut.not hi (k := 6) (fun h => hsh.dep (hsh.dep (hsh.dep (hsh.dep h (k := 5) (by kernel_rfl)) (k := 4) (by kernel_rfl)) (k := 3) (by kernel_rfl)) (k := 2) (by kernel_rfl))
          have e1 := (hj.c1 (ready_dep hi (k := 1) (by kernel_rfl))).symm
          subst e1
          have h4 : ℓ.getD 4 false = false := Shut.not hi (k := 4) (fun h => hsh.dep (hsh.dep h (k := 3) (by kernel_rfl)) (k := 2) (by kernel_rfl))
          have hl := hj.low h4 h5
          have kk := (hl.cell (p := ⟨b, 0, none⟩) hbl).trans k0
          refine wpOpIn_step rfl (fun K hK => ?_)
          go_simp
          exact hK _ _ ⟨_, _, _, _, _, _, rfl, ⟨fun h => hj.c0 (flag_of (i := 2) (by decide) h), fun h => hj.c1 (flag_of (i := 2) (by decide) h), fun _ => rfl, fun h => hj.c3 (flag_of (i := 2) (by decide) h), fun _ _ => hl, fun h => absurd (flag_of (i := 2) (by decide) h) (by rw [h4]; exact Bool.false_ne_true), fun h => absurd (flag_of (i := 2) (by decide) h) (by rw [h5]; exact Bool.false_ne_true), fun h => absurd (flag_of (i := 2) (by decide) h) (by rw [h6]; exact Bool.false_ne_true)⟩⟩
        · have h5 : ℓ.getD 5 false = false := Shut.not hi (k := 5) (fun h => hsh.dep (hsh.dep h (k := 4) (by kernel_rfl)) (k := 3) (by kernel_rfl))
          have h6 : ℓ.getD 6 false = false := Shut.not hi (k := 6) (fun h => hsh.dep (hsh.dep (hsh.dep h (k := 5) (by kernel_rfl)) (k := 4) (by kernel_rfl)) (k := 3) (by kernel_rfl))
          have e2 := (hj.c2 (ready_dep hi (k := 2) (by kernel_rfl))).symm
          subst e2
          have h4 : ℓ.getD 4 false = false := Shut.not hi (k := 4) (fun h => hsh.dep h (k := 3) (by kernel_rfl))
          have hl := hj.low h4 h5
          refine wpOpIn_step rfl (fun K hK => ?_)
          go_simp
          refine ⟨trivial, ?_⟩
          refine (CallsIn.inRound l (callsIn_wide.2 (clone_text x.f.path w' hpath))).mono ?_
          rintro e w2 ⟨rfl, hb⟩
          exact hK _ _ ⟨_, _, _, _, _, _, rfl, ⟨fun h => hj.c0 (flag_of (i := 3) (by decide) h), fun h => hj.c1 (flag_of (i := 3) (by decide) h), fun h => hj.c2 (flag_of (i := 3) (by decide) h), fun _ => rfl, fun _ _ => hl.trans (hb.mono hl.size), fun h => absurd (flag_of (i := 3) (by decide) h) (by rw [h4]; exact Bool.false_ne_true), fun h => absurd (flag_of (i := 3) (by decide) h) (by rw [h5]; exact Bool.false_ne_true), fun h => absurd (flag_of (i := 3) (by decide) h) (by rw [h6]; exact Bool.false_ne_true)⟩⟩
        · have h5 : ℓ.getD 5 false = false := Shut.not hi (k := 5) (fun h => hsh.dep h (k := 4) (by kernel_rfl))
          have h6 : ℓ.getD 6 false = false := Shut.not hi (k := 6) (fun h => hsh.dep (hsh.dep h (k := 5) (by kernel_rfl)) (k := 4) (by kernel_rfl))
          have e3 := (hj.c3 (ready_dep hi (k := 3) (by kernel_rfl))).symm
          subst e3
          have hl := hj.low hun h5
          refine wpOpIn_step rfl (fun K hK => ?_)
          go_simp
          exact hK _ _ ⟨_, _, _, _, _, _, rfl, ⟨fun h => hj.c0 (flag_of (i := 4) (by decide) h), fun h => hj.c1 (flag_of (i := 4) (by decide) h), fun h => hj.c2 (flag_of (i := 4) (by decide) h), fun h => hj.c3 (flag_of (i := 4) (by decide) h), fun h => absurd h (by rw [flag_now (by rw [hs]; decide)]; exact fun e => by cases e), fun _ _ => ⟨_, hl, rfl, rfl⟩, fun h => absurd (flag_of (i := 4) (by decide) h) (by rw [h5]; exact Bool.false_ne_true), fun h => absurd (flag_of (i := 4) (by decide) h) (by rw [h6]; exact Bool.false_ne_true)⟩⟩
        · have h6 : ℓ.getD 6 false = false := Shut.not hi (k := 6) (fun h => hsh.dep h (k := 5) (by kernel_rfl))
          have e0 := (hj.c0 (ready_dep hi (k := 0) (by kernel_rfl))).symm
          have e3 := (hj.c3 (ready_dep hi (k := 3) (by kernel_rfl))).symm
          subst e0 e3
          obtain ⟨w9, q1, q2, e4⟩ := hj.mid (ready_dep hi (k := 4) (by kernel_rfl)) hun
          subst q2
          subst e4
          have hown9 : (w9.alloc (.cells #[Value.string x.f.path] 9)).ownsRow (B + 3) 9 1 rv pre.length (rowS (unS pre)) := ownsRow_turned hown ((Turned.of_below (S := fun _ => False) q1).trans (Turned.of_below (S := fun _ => False) ((Below.refl w9.heap.size w9).alloc (Nat.le_refl _) _)) (fun _ _ h => h)) (fun _ _ h => h)
          obtain ⟨v', w11, hap, hown', hgrow, _⟩ := run_append_raw elem_astr hown9 (some ⟨w9.heap.size, 0, none⟩) 1 1 #[Value.string x.f.path].toList (.inr ⟨w9.heap.size, 0, rfl, fun j u hu => by
            rw [Nat.zero_add, obj_cell (heap_alloc_new w9 _) j]
            simpa using hu⟩) rfl (by intro u hu; simp at hu; rcases hu with rfl <;> rfl) (by omega) (by have := q1.size; simp; omega)
          refine wpOpIn_append rfl rfl _ _ _ rfl rfl rfl hap ?_
          exact ⟨_, _, _, _, _, _, rfl, ⟨fun h => hj.c0 (flag_of (i := 5) (by decide) h), fun h => hj.c1 (flag_of (i := 5) (by decide) h), fun h => hj.c2 (flag_of (i := 5) (by decide) h), fun h => hj.c3 (flag_of (i := 5) (by decide) h), fun _ h => absurd h (by rw [flag_now (by rw [hs]; decide)]; exact fun e => by cases e), fun _ h => absurd h (by rw [flag_now (by rw [hs]; decide)]; exact fun e => by cases e), fun _ _ => ⟨w9, q1, hown', hgrow⟩, fun h => absurd (flag_of (i := 5) (by decide) h) (by rw [h6]; exact Bool.false_ne_true)⟩⟩
        · have ha := ready_dep hi (k := 5) (by kernel_rfl)
          obtain ⟨w9, q1, hown', hgrow⟩ := hj.hi ha hun
          have hbox9 : Boxed (w9.alloc (.cells #[Value.string x.f.path] 9)) B 46 rv := Boxed.alloc ((q1.block B hB).trans hbox) _
          have hown9 : (w9.alloc (.cells #[Value.string x.f.path] 9)).ownsRow (B + 3) 9 1 rv pre.length (rowS (unS pre)) := ownsRow_turned hown ((Turned.of_below (S := fun _ => False) q1).trans (Turned.of_below (S := fun _ => False) ((Below.refl w9.heap.size w9).alloc (Nat.le_refl _) _)) (fun _ _ h => h)) (fun _ _ h => h)
          have hbox11 : Boxed w' B 46 rv := hbox9.kept hgrow (hbox9.not_row (by decide) hown9)
          have kb1 := hbox11.cell
          have kf1 := hbox11.frozen
          obtain ⟨g, cap, ev⟩ := ownsRow_succ hown'
          subst ev
          refine wpOpIn_step rfl (fun K hK => ?_)
          go_simp
          exact hK _ _ ⟨_, _, _, _, _, _, rfl, ⟨fun h => hj.c0 (flag_of (i := 6) (by decide) h), fun h => hj.c1 (flag_of (i := 6) (by decide) h), fun h => hj.c2 (flag_of (i := 6) (by decide) h), fun h => hj.c3 (flag_of (i := 6) (by decide) h), fun _ h => absurd (flag_keep ha) (by rw [h]; exact Bool.false_ne_true), fun _ h => absurd (flag_keep ha) (by rw [h]; exact Bool.false_ne_true), fun _ h => absurd h (by rw [flag_now (by rw [hs]; decide)]; exact fun e => by cases e), fun _ => ⟨w9, w', _, q1, hown', hgrow, rfl⟩⟩⟩
      · rintro ℓ a' w' ⟨x17, x18, x19, x20, x21, x22, rfl, hj⟩ hall
        obtain ⟨w9, w11, v', q1, q2, q3, rfl⟩ := hj.fin (hall 6 (by decide))
        obtain ⟨r1, r2, r3, r4, r5, r6⟩ := box_pushed (fun k t => k ≠ B ∧ (k < B + 3 ∨ t ≠ 9)) (by decide) rfl (by omega) hbox hown hB0 hw q1 q2 q3 (fun _ _ h => h)
        exact ⟨r2, r3, ⟨_, r4, own_pushS r5, trivial⟩, r3.2 Bt _ _ _ hbt ⟨by omega, .inl (by omega)⟩, r6, less_push hall0 hless⟩
  case done =>
    rintro ys W hys ⟨⟨v, hbox, hown, _⟩, _, hw, hless⟩ hD
    have hyx : unS ys = SeqX xs fq := hys
    have hyl : ys.length = (SeqX xs fq).length := by rw [← hyx]; simp [unS]
    rw [hyx] at hless
    rw [hyx, hyl] at hown
    have HE := Lib.hid (scan_all hless)
    obtain ⟨LA, cc, rfl, _, _, _⟩ := own_form hown
    have kb := hbox.cell
    have HOWN := Lib.hid (own_base (b0 := w.heap.size) hown (by omega))
    have HW := Lib.hid hw
    have HD := Lib.hid hD
    clear hown hw hD hbox hys hyx hyl hless
    gi_wp2_with fail
    refine ⟨by simp, .inl ⟨_, _, rfl, run_takeDeferred HD.out, ?_⟩⟩
    exact ⟨_, results_tmp rfl _ _ _, _, rfl, strs_new HE.out (ownsRow_putObj HOWN.out _ HD.out rfl), HW.out.trans (belowK_b (w := w) (Nat.le_refl _) _ _ _ _ HB4.out.size HD.out rfl rfl)⟩
  case stop =>
    rintro c pre W hpre ⟨rfl, q, x, rfl, ⟨⟨v, hbox, hown, _⟩, _, hw, hless⟩, hxto⟩ hD
    obtain ⟨rest, hrest⟩ := hpre
    have e0 : SeqX xs fq = unS q ++ x.1 :: rest := by rw [← hrest]; simp [unS]
    have HE := Lib.hid (scan_some HG.out.rise e0 hless hxto)
    have hyl : q.length = (unS q).length := by simp [unS]
    rw [hyl] at hown
    obtain ⟨LA, cc, rfl, _, _, _⟩ := own_form hown
    have kb := hbox.cell
    have HOWN := Lib.hid (own_base (b0 := w.heap.size) hown (by omega))
    have HW := Lib.hid hw
    have HD := Lib.hid hD
    clear hown hw hD hbox hyl hless hrest e0
    gi_wp2_with fail
    refine ⟨by simp, .inl ⟨_, _, rfl, run_takeDeferred HD.out, ?_⟩⟩
    exact ⟨_, results_tmp rfl _ _ _, _, rfl, strs_new HE.out (ownsRow_putObj HOWN.out _ HD.out rfl), HW.out.trans (belowK_b (w := w) (Nat.le_refl _) _ _ _ _ HB4.out.size HD.out rfl rfl)⟩
end Go.Proofs.Ytcjbhjbjkfgphaa

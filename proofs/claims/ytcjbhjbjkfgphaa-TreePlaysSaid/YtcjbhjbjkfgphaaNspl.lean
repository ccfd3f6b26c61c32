/-
  The program's spliced and the library's Clone, of rows of files and of nodes. Condition: no row has more than 4096 elements.
-/
import Derived.Test.YtcjbhjbjkfgphaaNcat
namespace Go.Proofs.Ytcjbhjbjkfgphaa
open Go.RowKit Go.Deep

set_option maxRecDepth 100000 in
set_option maxHeartbeats 2000000 in
theorem spliced_file {w : World} {A B : Option Addr} {n c m d : Nat} {xs ys : List Value} (i j : Nat) (hij : i ≤ j) (hj : j ≤ n) (hnc : n ≤ c) (hn : n ≤ 4096) (hm : m ≤ 4096)
    (hxs : RawAt w A xs) (lx : xs.length = n * 3) (ox : ∀ u ∈ xs, u.oneCell' = true) (hys : RawAt w B ys) (ly : ys.length = m * 3) (oy : ∀ u ∈ ys, u.oneCell' = true) :
    Calls Try.prog 41 #[.slice A n c, .int .i64 (i : Int), .int .i64 (j : Int), .slice B m d] w (OwnNew 68 3 (i + m + (n - j)) (xs.take (i * 3) ++ ys ++ xs.drop (j * 3)) w) := by
  obtain ⟨C, eC, hC, lC, _⟩ := sliced_part (sz := 3) hxs hj hnc lx n (Nat.le_refl _) hj
  obtain ⟨D, eD, hD, lD, _⟩ := sliced_part (sz := 3) hxs (Nat.zero_le n) hnc lx i (by omega) (Nat.zero_le i)
  have hts : xs.take (n * 3) = xs := by rw [← lx, List.take_length]
  rw [hts] at hC lC
  rw [Nat.zero_mul, List.drop_zero] at hD
  rw [Nat.zero_mul, List.drop_zero, Nat.sub_zero] at lD
  rw [Nat.sub_zero, Nat.sub_zero] at eD
  have h1 : ∀ W, (Instr.slice 74 (.slice A n c) none (some (.int .i64 (i : Int))) none).run Try.prog W = .ok (.slice D i c) W := fun W => by
    rw [run_slice_h (P := Try.prog) (w := W) 74 A n c Try.underlying74 .i64 (i : Int) (by omega) (by omega), elem_file.size, Result.andThen_ok, Int.toNat_natCast, eD]
  have h2 : ∀ W, (Instr.slice 74 (.slice A n c) (some (.int .i64 (j : Int))) none none).run Try.prog W = .ok (.slice C (n - j) (c - j)) W := fun W => by
    rw [run_slice_l (P := Try.prog) (w := W) 74 A n c Try.underlying74 .i64 (j : Int) (by omega) (by omega), elem_file.size, Result.andThen_ok, Int.toNat_natCast, eC]
  obtain ⟨WC, eWC⟩ : ∃ W, W = (w.alloc (.cells #[.slice D i c, .slice B m d, .slice C (n - j) (c - j)] 74)).drew := ⟨_, rfl⟩
  have hb : Below w.heap.size w WC := by rw [eWC]; exact ((Below.refl _ w).alloc (Nat.le_refl _) _).drew
  have hcells : ∀ (k : Nat) (r : RowD), ([⟨D, i, c, xs.take (i * 3)⟩, ⟨B, m, d, ys⟩, ⟨C, n - j, c - j, xs.drop (j * 3)⟩] : List RowD)[k]? = some r → WC.cell? ⟨w.heap.size, k, none⟩ = some r.val := by
    intro k r hk
    have h0 := heap_alloc_new w (.cells #[.slice D i c, .slice B m d, .slice C (n - j) (c - j)] 74)
    rw [eWC]
    match k, hk with
    | 0, hk => cases hk; exact obj_cell h0 0
    | 1, hk => cases hk; exact obj_cell h0 1
    | 2, hk => cases hk; exact obj_cell h0 2
  have hc := concat_file w.heap.size [⟨D, i, c, xs.take (i * 3)⟩, ⟨B, m, d, ys⟩, ⟨C, n - j, c - j, xs.drop (j * 3)⟩] WC (Nat.le_refl 3) hcells (by
      intro r hr
      simp only [List.mem_cons, List.not_mem_nil, or_false] at hr
      rcases hr with rfl | rfl | rfl
      · exact ⟨lD, hD.below hb, fun u hu => ox u (List.mem_of_mem_take hu), by show i ≤ 4096; omega⟩
      · exact ⟨ly, hys.below hb, oy, hm⟩
      · exact ⟨lC, hC.below hb, fun u hu => ox u (List.mem_of_mem_drop hu), by show n - j ≤ 4096; omega⟩)
  have ht : tot [⟨D, i, c, xs.take (i * 3)⟩, ⟨B, m, d, ys⟩, ⟨C, n - j, c - j, xs.drop (j * 3)⟩] = i + m + (n - j) := by simp [tot, Nat.add_assoc]
  have hv : allV [⟨D, i, c, xs.take (i * 3)⟩, ⟨B, m, d, ys⟩, ⟨C, n - j, c - j, xs.drop (j * 3)⟩] = xs.take (i * 3) ++ ys ++ xs.drop (j * 3) := by simp [allV]
  rw [ht, hv] at hc
  have hc : Calls Try.prog 57 #[.slice (some ⟨w.heap.size, 0, none⟩) 3 3] WC (OwnNew 68 3 (i + m + (n - j)) (xs.take (i * 3) ++ ys ++ xs.drop (j * 3)) WC) := hc
  have HC := Lib.hid (hc.mono (R' := OwnNew 68 3 (i + m + (n - j)) (xs.take (i * 3) ++ ys ++ xs.drop (j * 3)) w) (by
    rintro e w' ⟨v, rfl, hv, hb2⟩
    exact ⟨v, rfl, own_base hv hb.size, hb.trans (hb2.mono hb.size)⟩))
  rw [eWC] at HC
  clear hij hj hnc hn hm hxs lx ox hys ly oy hC lC hD lD eC eD hts hb hcells hc ht hv eWC
  go_enter Try.func41, Try.ntmps41
  go_wp2_with fail
  go_region_held3 (fun _ => True) ((trivial)) ((go_at_call 57; (with_reducible refine HC.out.mono ?_); rintro e w1 ⟨v, rfl, hv, hb⟩))
  go_wp2_with fail
  go_ret
  exact ⟨_, rfl, hv, hb⟩

set_option maxRecDepth 100000 in
set_option maxHeartbeats 2000000 in
theorem clone_file {w : World} {A : Option Addr} {n c : Nat} {xs : List Value} (hn : n ≤ 4096) (hxs : RawAt w A xs) (lx : xs.length = n * 3) (ox : ∀ u ∈ xs, u.oneCell' = true) :
    Calls Try.prog 60 #[.slice A n c] w (OwnNew 68 3 n xs w) := by
  cases A with
  | none =>
    have hx : xs = [] := by
      rcases hxs with hxs | ⟨g, o, e, _⟩
      · exact hxs
      · cases e
    subst hx
    have hn0 : n = 0 := by simp at lx; omega
    subst hn0
    have he : ∀ W : World, (binOp .eql 74 (.slice none 0 c) (.slice none 0 0)).run Try.prog W = .ok (.bool true) W := fun _ => rfl
    clear hxs lx ox hn
    go_enter Try.func60, Try.ntmps60
    go_wp2_with fail
    go_ret
    exact ⟨_, rfl, World.ownsRow_nil _ _ _ _, Below.refl _ _⟩
  | some a =>
    have HO := Lib.hid (World.ownsRow_made (base := w.heap.size) (e := 68) (size := 3) w #[] 0 (Nat.le_refl _) (Nat.zero_le _) (by rfl))
    have HB := Lib.hid (show Below w.heap.size w (w.alloc (.cells #[] 68)) from (Below.refl _ w).alloc (Nat.le_refl _) _)
    have HX := Lib.hid (hxs.below HB.out)
    have HLX := Lib.hid lx
    have HOX := Lib.hid ox
    have HN := Lib.hid (show 0 + n ≤ 1099511627776 by omega)
    have he : ∀ W : World, (binOp .eql 74 (.slice (some a) n c) (.slice none 0 0)).run Try.prog W = .ok (.bool false) W := fun _ => rfl
    clear hxs lx ox hn
    go_enter Try.func60, Try.ntmps60
    go_wp2_with ((refine wpList_append_raw 7 xs elem_file HO.out HX.out HLX.out HOX.out rfl rfl HN.out HB.out.size ?_))
    intro v5 w5 ho5 ht5 _
    rw [List.nil_append, Nat.zero_add] at ho5
    have hb5 := HB.out.trans (ht5.below HB.out.size (fun k hk => (World.ownsRow.lt HO.out k hk).1))
    go_wp2_with fail
    go_ret
    exact ⟨_, rfl, ho5, hb5⟩

set_option maxRecDepth 100000 in
set_option maxHeartbeats 2000000 in
theorem spliced_node {w : World} {A B : Option Addr} {n c m d : Nat} {xs ys : List Value} (i j : Nat) (hij : i ≤ j) (hj : j ≤ n) (hnc : n ≤ c) (hn : n ≤ 4096) (hm : m ≤ 4096)
    (hxs : RawAt w A xs) (lx : xs.length = n * 1) (ox : ∀ u ∈ xs, u.oneCell' = true) (hys : RawAt w B ys) (ly : ys.length = m * 1) (oy : ∀ u ∈ ys, u.oneCell' = true) :
    Calls Try.prog 58 #[.slice A n c, .int .i64 (i : Int), .int .i64 (j : Int), .slice B m d] w (OwnNew 71 1 (i + m + (n - j)) (xs.take (i * 1) ++ ys ++ xs.drop (j * 1)) w) := by
  obtain ⟨C, eC, hC, lC, _⟩ := sliced_part (sz := 1) hxs hj hnc lx n (Nat.le_refl _) hj
  obtain ⟨D, eD, hD, lD, _⟩ := sliced_part (sz := 1) hxs (Nat.zero_le n) hnc lx i (by omega) (Nat.zero_le i)
  have hts : xs.take (n * 1) = xs := by rw [← lx, List.take_length]
  rw [hts] at hC lC
  rw [Nat.zero_mul, List.drop_zero] at hD
  rw [Nat.zero_mul, List.drop_zero, Nat.sub_zero] at lD
  rw [Nat.sub_zero, Nat.sub_zero] at eD
  have h1 : ∀ W, (Instr.slice 75 (.slice A n c) none (some (.int .i64 (i : Int))) none).run Try.prog W = .ok (.slice D i c) W := fun W => by
    rw [run_slice_h (P := Try.prog) (w := W) 75 A n c Try.underlying75 .i64 (i : Int) (by omega) (by omega), elem_node.size, Result.andThen_ok, Int.toNat_natCast, eD]
  have h2 : ∀ W, (Instr.slice 75 (.slice A n c) (some (.int .i64 (j : Int))) none none).run Try.prog W = .ok (.slice C (n - j) (c - j)) W := fun W => by
    rw [run_slice_l (P := Try.prog) (w := W) 75 A n c Try.underlying75 .i64 (j : Int) (by omega) (by omega), elem_node.size, Result.andThen_ok, Int.toNat_natCast, eC]
  obtain ⟨WC, eWC⟩ : ∃ W, W = (w.alloc (.cells #[.slice D i c, .slice B m d, .slice C (n - j) (c - j)] 75)).drew := ⟨_, rfl⟩
  have hb : Below w.heap.size w WC := by rw [eWC]; exact ((Below.refl _ w).alloc (Nat.le_refl _) _).drew
  have hcells : ∀ (k : Nat) (r : RowD), ([⟨D, i, c, xs.take (i * 1)⟩, ⟨B, m, d, ys⟩, ⟨C, n - j, c - j, xs.drop (j * 1)⟩] : List RowD)[k]? = some r → WC.cell? ⟨w.heap.size, k, none⟩ = some r.val := by
    intro k r hk
    have h0 := heap_alloc_new w (.cells #[.slice D i c, .slice B m d, .slice C (n - j) (c - j)] 75)
    rw [eWC]
    match k, hk with
    | 0, hk => cases hk; exact obj_cell h0 0
    | 1, hk => cases hk; exact obj_cell h0 1
    | 2, hk => cases hk; exact obj_cell h0 2
  have hc := concat_node w.heap.size [⟨D, i, c, xs.take (i * 1)⟩, ⟨B, m, d, ys⟩, ⟨C, n - j, c - j, xs.drop (j * 1)⟩] WC (Nat.le_refl 3) hcells (by
      intro r hr
      simp only [List.mem_cons, List.not_mem_nil, or_false] at hr
      rcases hr with rfl | rfl | rfl
      · exact ⟨lD, hD.below hb, fun u hu => ox u (List.mem_of_mem_take hu), by show i ≤ 4096; omega⟩
      · exact ⟨ly, hys.below hb, oy, hm⟩
      · exact ⟨lC, hC.below hb, fun u hu => ox u (List.mem_of_mem_drop hu), by show n - j ≤ 4096; omega⟩)
  have ht : tot [⟨D, i, c, xs.take (i * 1)⟩, ⟨B, m, d, ys⟩, ⟨C, n - j, c - j, xs.drop (j * 1)⟩] = i + m + (n - j) := by simp [tot, Nat.add_assoc]
  have hv : allV [⟨D, i, c, xs.take (i * 1)⟩, ⟨B, m, d, ys⟩, ⟨C, n - j, c - j, xs.drop (j * 1)⟩] = xs.take (i * 1) ++ ys ++ xs.drop (j * 1) := by simp [allV]
  rw [ht, hv] at hc
  have hc : Calls Try.prog 71 #[.slice (some ⟨w.heap.size, 0, none⟩) 3 3] WC (OwnNew 71 1 (i + m + (n - j)) (xs.take (i * 1) ++ ys ++ xs.drop (j * 1)) WC) := hc
  have HC := Lib.hid (hc.mono (R' := OwnNew 71 1 (i + m + (n - j)) (xs.take (i * 1) ++ ys ++ xs.drop (j * 1)) w) (by
    rintro e w' ⟨v, rfl, hv, hb2⟩
    exact ⟨v, rfl, own_base hv hb.size, hb.trans (hb2.mono hb.size)⟩))
  rw [eWC] at HC
  clear hij hj hnc hn hm hxs lx ox hys ly oy hC lC hD lD eC eD hts hb hcells hc ht hv eWC
  go_enter Try.func58, Try.ntmps58
  go_wp2_with fail
  go_region_held3 (fun _ => True) ((trivial)) ((go_at_call 71; (with_reducible refine HC.out.mono ?_); rintro e w1 ⟨v, rfl, hv, hb⟩))
  go_wp2_with fail
  go_ret
  exact ⟨_, rfl, hv, hb⟩

set_option maxRecDepth 100000 in
set_option maxHeartbeats 2000000 in
theorem clone_node {w : World} {A : Option Addr} {n c : Nat} {xs : List Value} (hn : n ≤ 4096) (hxs : RawAt w A xs) (lx : xs.length = n * 1) (ox : ∀ u ∈ xs, u.oneCell' = true) :
    Calls Try.prog 61 #[.slice A n c] w (OwnNew 71 1 n xs w) := by
  cases A with
  | none =>
    have hx : xs = [] := by
      rcases hxs with hxs | ⟨g, o, e, _⟩
      · exact hxs
      · cases e
    subst hx
    have hn0 : n = 0 := by simp at lx; omega
    subst hn0
    have he : ∀ W : World, (binOp .eql 75 (.slice none 0 c) (.slice none 0 0)).run Try.prog W = .ok (.bool true) W := fun _ => rfl
    clear hxs lx ox hn
    go_enter Try.func61, Try.ntmps61
    go_wp2_with fail
    go_ret
    exact ⟨_, rfl, World.ownsRow_nil _ _ _ _, Below.refl _ _⟩
  | some a =>
    have HO := Lib.hid (World.ownsRow_made (base := w.heap.size) (e := 71) (size := 1) w #[] 0 (Nat.le_refl _) (Nat.zero_le _) (by rfl))
    have HB := Lib.hid (show Below w.heap.size w (w.alloc (.cells #[] 71)) from (Below.refl _ w).alloc (Nat.le_refl _) _)
    have HX := Lib.hid (hxs.below HB.out)
    have HLX := Lib.hid lx
    have HOX := Lib.hid ox
    have HN := Lib.hid (show 0 + n ≤ 1099511627776 by omega)
    have he : ∀ W : World, (binOp .eql 75 (.slice (some a) n c) (.slice none 0 0)).run Try.prog W = .ok (.bool false) W := fun _ => rfl
    clear hxs lx ox hn
    go_enter Try.func61, Try.ntmps61
    go_wp2_with ((refine wpList_append_raw 7 xs elem_node HO.out HX.out HLX.out HOX.out rfl rfl HN.out HB.out.size ?_))
    intro v5 w5 ho5 ht5 _
    rw [List.nil_append, Nat.zero_add] at ho5
    have hb5 := HB.out.trans (ht5.below HB.out.size (fun k hk => (World.ownsRow.lt HO.out k hk).1))
    go_wp2_with fail
    go_ret
    exact ⟨_, rfl, ho5, hb5⟩
end Go.Proofs.Ytcjbhjbjkfgphaa

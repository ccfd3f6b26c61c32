/-
  The program's ropes: trees of parts, as plain data; how one lies in memory. Plain facts on where a line begins. No condition.
  The program's joint of two ropes: a new block over both. Condition: both together are no longer than 65536 bytes.
-/
import Derived.Test.YtcjbhjbjkfgphaaTapi
import Derived.Below
import Derived.Deep.RegionHeld3
import Derived.BigRegion
namespace Go.Proofs.Ytcjbhjbjkfgphaa
open Go.RowKit Go.Deep

/-- A rope's shape: a part, or two ropes joined. -/
inductive RT where
  | part (s : List UInt8)
  | node (a b : RT)
def RT.text : RT → List UInt8
  | .part s => s
  | .node a b => a.text ++ b.text
def RT.depth : RT → Nat
  | .part _ => 0
  | .node a b => 1 + max a.depth b.depth
/-- No empty rope is joined. -/
def RT.ok : RT → Prop
  | .part _ => True
  | .node a b => a.text ≠ [] ∧ b.text ≠ [] ∧ a.ok ∧ b.ok
theorem RT.depth_le : ∀ {t : RT}, t.ok → t.text ≠ [] → t.depth + 1 ≤ t.text.length
  | .part s, _, h => by
    have := List.length_pos_iff.2 h
    simp only [RT.text] at this
    simp only [RT.depth, RT.text]
    omega
  | .node a b, ⟨ha, hb, ka, kb⟩, _ => by
    have h1 := RT.depth_le ka ha
    have h2 := RT.depth_le kb hb
    simp only [RT.depth, RT.text, List.length_append]
    omega
theorem RT.depth_le' {t : RT} (h : t.ok) : t.depth ≤ t.text.length := by
  by_cases ht : t.text = []
  · cases t with
    | part s => simp [RT.depth]
    | node a b =>
      simp only [RT.text] at ht
      exact absurd (List.append_eq_nil_iff.1 ht).1 h.1
  · have := RT.depth_le h ht
    omega
theorem RT.len_pos {t : RT} (h : t.text ≠ []) : 0 < t.text.length := List.length_pos_iff.2 h

def partCells (s : List UInt8) : Array Value := #[.string (txt s), .pointer none, .pointer none, .int .i64 (s.length : Int), .int .i64 (feeds s : Int), .int .i64 0]
def nodeCells (a b : RT) (x y : Nat) : Array Value := #[.string ⟨#[]⟩, .pointer (some ⟨x, 0, none⟩), .pointer (some ⟨y, 0, none⟩), .int .i64 ((a.text.length + b.text.length : Nat) : Int), .int .i64 ((feeds a.text + feeds b.text : Nat) : Int), .int .i64 ((1 + max a.depth b.depth : Nat) : Int)]
/-- Block b holds the rope t. -/
def IsRT (w : World) : Nat → RT → Prop
  | b, .part s => w.heap[b]? = some (.cells (partCells s) 110 (0, 0))
  | b, .node l r => ∃ x y, w.heap[b]? = some (.cells (nodeCells l r x y) 110 (0, 0)) ∧ IsRT w x l ∧ IsRT w y r
theorem IsRT.lt {w : World} : ∀ {b : Nat} {t : RT}, IsRT w b t → b < w.heap.size
  | _, .part _, h => lt_of_some h
  | _, .node _ _, ⟨_, _, h, _⟩ => lt_of_some h
theorem IsRT.below {w w' : World} (hb : Below w.heap.size w w') : ∀ {b : Nat} {t : RT}, IsRT w b t → IsRT w' b t
  | _, .part _, h => Below.obj hb h (lt_of_some h)
  | _, .node _ _, ⟨x, y, h, h1, h2⟩ => ⟨x, y, Below.obj hb h (lt_of_some h), IsRT.below hb h1, IsRT.below hb h2⟩
theorem cell_of_obj {w : World} {b : Nat} {cs : Array Value} {T : TypeId} {fr : Nat × Nat} (hb : w.heap[b]? = some (.cells cs T fr)) (j : Nat) : w.cell? ⟨b, j, none⟩ = cs[j]? := by
  simp [World.cell?, hb]
theorem IsRT.sizeC {w : World} {b : Nat} : ∀ {t : RT}, IsRT w b t → w.cell? ⟨b, 3, none⟩ = some (.int .i64 (t.text.length : Int))
  | .part s, h => cell_of_obj h 3
  | .node l r, ⟨x, y, h, _⟩ => (cell_of_obj h 3).trans (by simp [nodeCells, RT.text])
theorem IsRT.feedsC {w : World} {b : Nat} : ∀ {t : RT}, IsRT w b t → w.cell? ⟨b, 4, none⟩ = some (.int .i64 (feeds t.text : Int))
  | .part s, h => cell_of_obj h 4
  | .node l r, ⟨x, y, h, _⟩ => (cell_of_obj h 4).trans (by simp [nodeCells, RT.text, feeds_append])
theorem IsRT.depthC {w : World} {b : Nat} : ∀ {t : RT}, IsRT w b t → w.cell? ⟨b, 5, none⟩ = some (.int .i64 (t.depth : Int))
  | .part _s, h => cell_of_obj h 5
  | .node _l _r, ⟨_x, _y, h, _⟩ => cell_of_obj h 5

/-! ### where a line begins -/
/-- The place behind k line feeds. -/
def bh : List UInt8 → Nat → Nat
  | _, 0 => 0
  | [], _ + 1 => 0
  | c :: r, k + 1 => if c = 10 then 1 + bh r k else 1 + bh r (k + 1)
theorem bh_zero (l : List UInt8) : bh l 0 = 0 := by cases l <;> rfl
theorem bh_le : ∀ (l : List UInt8) (k : Nat), bh l k ≤ l.length
  | _, 0 => by rw [bh_zero]; omega
  | [], k + 1 => Nat.le_refl _
  | c :: r, k + 1 => by
    have h1 := bh_le r k
    have h2 := bh_le r (k + 1)
    simp only [bh, List.length_cons]
    split <;> omega
theorem bh_left : ∀ (a b : List UInt8) (k : Nat), k ≤ feeds a → bh (a ++ b) k = bh a k
  | _, _, 0, _ => by rw [bh_zero, bh_zero]
  | [], b, k + 1, h => by simp [feeds] at h
  | c :: r, b, k + 1, h => by
    simp only [List.cons_append, bh]
    by_cases hc : c = 10
    · subst hc
      rw [feeds_cons10] at h
      rw [if_pos rfl, if_pos rfl, bh_left r b k (by omega)]
    · rw [if_neg hc, if_neg hc, bh_left r b (k + 1) (by simpa [feeds, List.count_cons, hc] using h)]
theorem bh_right : ∀ (a b : List UInt8) (k : Nat), feeds a < k → bh (a ++ b) k = a.length + bh b (k - feeds a)
  | [], b, k, h => by simp [feeds]
  | c :: r, b, 0, h => by omega
  | c :: r, b, k + 1, h => by
    simp only [List.cons_append, bh, List.length_cons]
    by_cases hc : c = 10
    · subst hc
      rw [feeds_cons10] at h ⊢
      rw [if_pos rfl]
      by_cases hk : feeds r < k
      · rw [bh_right r b k hk, Nat.add_sub_add_right]
        omega
      · omega
    · have hf : feeds (c :: r) = feeds r := by simp [feeds, hc]
      rw [if_neg hc]
      rw [hf] at h ⊢
      rw [bh_right r b (k + 1) h]
      omega
theorem bh_all : ∀ (l : List UInt8) (k : Nat), 0 < k → k ≤ feeds l → (∃ i, bh l k = i + 1 ∧ l[i]? = some 10 ∧ feeds (l.take (i + 1)) = k)
  | [], k, h, hk => by simp [feeds] at hk; omega
  | c :: r, 0, h, _ => by omega
  | c :: r, k + 1, _, hk => by
    simp only [bh]
    by_cases hc : c = 10
    · subst hc
      rw [feeds_cons10] at hk
      rw [if_pos rfl]
      by_cases h0 : k = 0
      · subst h0
        exact ⟨0, by rw [bh_zero], rfl, by simp [feeds]⟩
      · obtain ⟨i, h1, h2, h3⟩ := bh_all r k (by omega) (by omega)
        exact ⟨i + 1, by omega, by simpa using h2, by rw [List.take_succ_cons, feeds_cons10, h3]⟩
    · have hf : feeds (c :: r) = feeds r := by simp [feeds, hc]
      rw [hf] at hk
      rw [if_neg hc]
      obtain ⟨i, h1, h2, h3⟩ := bh_all r (k + 1) (by omega) hk
      refine ⟨i + 1, by omega, by simpa using h2, ?_⟩
      rw [List.take_succ_cons, show feeds (c :: r.take (i + 1)) = feeds (r.take (i + 1)) by simp [feeds, hc], h3]
theorem feeds_bh (l : List UInt8) (k : Nat) (hk : k ≤ feeds l) : feeds (l.take (bh l k)) = k := by
  by_cases h0 : k = 0
  · subst h0; rw [bh_zero]; rfl
  · obtain ⟨i, h1, _, h3⟩ := bh_all l k (by omega) hk
    rw [h1, h3]
theorem feeds_drop_bh (l : List UInt8) (k : Nat) (hk : k ≤ feeds l) : feeds (l.drop (bh l k)) = feeds l - k := by
  have h := feeds_append (l.take (bh l k)) (l.drop (bh l k))
  rw [List.take_append_drop, feeds_bh l k hk] at h
  omega
/-- One line feed more: behind the next one of what is left. -/
theorem bh_succ : ∀ (l : List UInt8) (k : Nat), k < feeds l → bh l (k + 1) = bh l k + bh (l.drop (bh l k)) 1
  | l, 0, _ => by simp [bh_zero]
  | [], k + 1, h => by simp [feeds] at h
  | c :: r, k + 1, h => by
    by_cases hc : c = 10
    · subst hc
      rw [feeds_cons10] at h
      have ih := bh_succ r k (by omega)
      have e1 : bh (10 :: r) (k + 1) = 1 + bh r k := by simp [bh]
      have e2 : bh (10 :: r) (k + 1 + 1) = 1 + bh r (k + 1) := by simp [bh]
      rw [e1, e2, ih, Nat.add_comm 1 (bh r k), List.drop_succ_cons]
      omega
    · have hf : feeds (c :: r) = feeds r := by simp [feeds, hc]
      rw [hf] at h
      have ih := bh_succ r (k + 1) h
      have e1 : bh (c :: r) (k + 1) = 1 + bh r (k + 1) := by simp [bh, hc]
      have e2 : bh (c :: r) (k + 1 + 1) = 1 + bh r (k + 1 + 1) := by simp [bh, hc]
      rw [e1, e2, ih, Nat.add_comm 1 (bh r (k + 1)), List.drop_succ_cons]
      omega
/-- Line n of a text: from behind n line feeds up to the next one. -/
theorem lns_bh : ∀ (l : List UInt8) (n : Nat), n < feeds l → (lns l)[n]? = some ((l.take (bh l (n + 1))).drop (bh l n)) := by
  intro l n
  induction n generalizing l with
  | zero =>
    intro h
    rcases lns_cases l with h1 | ⟨a, r, rfl, ha⟩
    · rw [feeds_none h1] at h; omega
    · rw [lns_line a r ha, bh_zero, List.drop_zero]
      have e : bh (a ++ 10 :: r) 1 = a.length + 1 := by
        rw [bh_right a _ 1 (by rw [feeds_none ha]; omega), feeds_none ha]
        simp [bh, bh_zero]
      rw [e, show a ++ 10 :: r = (a ++ [10]) ++ r by simp, List.take_left' (by simp)]
      rfl
  | succ n ih =>
    intro h
    rcases lns_cases l with h1 | ⟨a, r, rfl, ha⟩
    · rw [feeds_none h1] at h; omega
    · have hf : feeds (a ++ 10 :: r) = feeds r + 1 := by rw [feeds_append, feeds_none ha, feeds_cons10]; omega
      rw [hf] at h
      have e : ∀ k, bh (a ++ 10 :: r) (k + 1) = a.length + 1 + bh r k := fun k => by
        rw [bh_right a _ (k + 1) (by rw [feeds_none ha]; omega), feeds_none ha]
        simp [bh]
        omega
      rw [lns_line a r ha, List.getElem?_cons_succ, ih r (by omega), e n, e (n + 1), show a ++ 10 :: r = (a ++ [10]) ++ r by simp]
      have hl : a.length + 1 = (a ++ [10]).length := by simp
      rw [hl, List.take_length_add_append, List.drop_length_add_append]
theorem lns_bh_last : ∀ (l : List UInt8), bh l (feeds l) < l.length → (lns l)[feeds l]? = some (l.drop (bh l (feeds l))) := by
  intro l
  generalize hn : feeds l = n
  induction n generalizing l with
  | zero =>
    intro h
    rw [bh_zero] at h ⊢
    have h1 : ∀ c ∈ l, c ≠ 10 := by
      intro c hc e
      subst e
      have := List.count_pos_iff.2 hc
      unfold feeds at hn
      omega
    rw [lns_plain l h1, if_neg (fun e => by rw [e] at h; simp at h)]
    rfl
  | succ n ih =>
    intro h
    rcases lns_cases l with h1 | ⟨a, r, rfl, ha⟩
    · rw [feeds_none h1] at hn; omega
    · have hf : feeds (a ++ 10 :: r) = feeds r + 1 := by rw [feeds_append, feeds_none ha, feeds_cons10]; omega
      rw [hf] at hn
      have e : ∀ k, bh (a ++ 10 :: r) (k + 1) = a.length + 1 + bh r k := fun k => by
        rw [bh_right a _ (k + 1) (by rw [feeds_none ha]; omega), feeds_none ha]
        simp [bh]
        omega
      rw [e n] at h ⊢
      have h2 : bh r n < r.length := by simp at h; omega
      rw [lns_line a r ha, List.getElem?_cons_succ, ih r (by omega) h2, show a ++ 10 :: r = (a ++ [10]) ++ r by simp]
      have hl : a.length + 1 = (a ++ [10]).length := by simp
      rw [hl, List.drop_length_add_append]
end Go.Proofs.Ytcjbhjbjkfgphaa

namespace Go.Proofs.Ytcjbhjbjkfgphaa
open Go.RowKit Go.Deep

/-- What a call answers that makes the rope t: its address; nothing that was has turned. -/
def Made (t : RT) (w : World) (e : Ending) (w' : World) : Prop := ∃ x, e = .returned (.pointer (some ⟨x, 0, none⟩)) ∧ IsRT w' x t ∧ Below w.heap.size w w'

set_option maxRecDepth 100000 in
set_option maxHeartbeats 2000000 in
theorem joint_new {a b : RT} {w : World} {x y : Nat} (ha : IsRT w x a) (hb : IsRT w y b) (hn : a.text.length + b.text.length ≤ 65536) (ka : a.depth ≤ 65536) (kb : b.depth ≤ 65536) :
    Calls Try.prog 53 #[.pointer (some ⟨x, 0, none⟩), .pointer (some ⟨y, 0, none⟩)] w (Made (.node a b) w) := by
  have fa := List.count_le_length (a := (10 : UInt8)) (l := a.text)
  have fb := List.count_le_length (a := (10 : UInt8)) (l := b.text)
  have a3 := ha.sizeC
  have a4 := ha.feedsC
  have a5 := ha.depthC
  have b3 := hb.sizeC
  have b4 := hb.feedsC
  have b5 := hb.depthC
  obtain ⟨na, ena⟩ : ∃ k, k = a.text.length := ⟨_, rfl⟩
  obtain ⟨nb, enb⟩ : ∃ k, k = b.text.length := ⟨_, rfl⟩
  obtain ⟨ma, ema⟩ : ∃ k, k = feeds a.text := ⟨_, rfl⟩
  obtain ⟨mb, emb⟩ : ∃ k, k = feeds b.text := ⟨_, rfl⟩
  obtain ⟨da, eda⟩ : ∃ k, k = a.depth := ⟨_, rfl⟩
  obtain ⟨db, edb⟩ : ∃ k, k = b.depth := ⟨_, rfl⟩
  rw [← ena] at a3
  rw [← enb] at b3
  rw [← ema] at a4
  rw [← emb] at b4
  rw [← eda] at a5
  rw [← edb] at b5
  have hm1 : ma ≤ na := by rw [ema, ena]; exact fa
  have hm2 : mb ≤ nb := by rw [emb, enb]; exact fb
  obtain ⟨n, en⟩ : ∃ n, n = na + nb := ⟨_, rfl⟩
  obtain ⟨m, em⟩ : ∃ n, n = ma + mb := ⟨_, rfl⟩
  obtain ⟨d, ed⟩ : ∃ d, d = 1 + max da db := ⟨_, rfl⟩
  have q1 : IntKind.i64.wrap ((na : Int) + (nb : Int)) = (n : Int) := by rw [show (na : Int) + (nb : Int) = (n : Int) by omega]; exact IntWalk.i64_in _ (by omega)
  have q2 : IntKind.i64.wrap ((ma : Int) + (mb : Int)) = (m : Int) := by rw [show (ma : Int) + (mb : Int) = (m : Int) by omega]; exact IntWalk.i64_in _ (by omega)
  have q3 : IntKind.i64.wrap (1 + if da < db then (db : Int) else (da : Int)) = (d : Int) := by
    rw [show (1 + if da < db then (db : Int) else (da : Int)) = (d : Int) by split <;> omega]
    exact IntWalk.i64_in _ (by omega)
  have HK := Lib.hid fun (o : Obj) => show (w.alloc o).drew.cell? ⟨x, 3, none⟩ = some (.int .i64 (na : Int)) ∧ (w.alloc o).drew.cell? ⟨x, 4, none⟩ = some (.int .i64 (ma : Int)) ∧ (w.alloc o).drew.cell? ⟨x, 5, none⟩ = some (.int .i64 (da : Int)) ∧ (w.alloc o).drew.cell? ⟨y, 3, none⟩ = some (.int .i64 (nb : Int)) ∧ (w.alloc o).drew.cell? ⟨y, 4, none⟩ = some (.int .i64 (mb : Int)) ∧ (w.alloc o).drew.cell? ⟨y, 5, none⟩ = some (.int .i64 (db : Int)) from by
    have hbo : Below w.heap.size w (w.alloc o).drew := ((Below.refl _ w).alloc (Nat.le_refl _) o).drew
    exact ⟨(hbo.cell (p := ⟨x, 3, none⟩) ha.lt).trans a3, (hbo.cell (p := ⟨x, 4, none⟩) ha.lt).trans a4, (hbo.cell (p := ⟨x, 5, none⟩) ha.lt).trans a5, (hbo.cell (p := ⟨y, 3, none⟩) hb.lt).trans b3, (hbo.cell (p := ⟨y, 4, none⟩) hb.lt).trans b4, (hbo.cell (p := ⟨y, 5, none⟩) hb.lt).trans b5⟩
  have HA := Lib.hid ha
  have HB := Lib.hid hb
  have E1 := Lib.hid (show n = a.text.length + b.text.length by omega)
  have E2 := Lib.hid (show m = feeds a.text + feeds b.text by omega)
  have E3 := Lib.hid (show d = 1 + max a.depth b.depth by rw [ed, eda, edb])
  clear ha hb hn ka kb fa fb ena enb ema emb eda edb hm1 hm2 en em ed
  go_enter Try.func53, Try.ntmps53
  go_wp2_with fail
  go_region_held3 (fun wx => wx.cell? ⟨x, 3, none⟩ = some (.int .i64 (na : Int)) ∧ wx.cell? ⟨x, 4, none⟩ = some (.int .i64 (ma : Int)) ∧ wx.cell? ⟨x, 5, none⟩ = some (.int .i64 (da : Int)) ∧ wx.cell? ⟨y, 3, none⟩ = some (.int .i64 (nb : Int)) ∧ wx.cell? ⟨y, 4, none⟩ = some (.int .i64 (mb : Int)) ∧ wx.cell? ⟨y, 5, none⟩ = some (.int .i64 (db : Int)))
    ((first | assumption | exact ⟨a3, a4, a5, b3, b4, b5⟩ | exact HK.out _))
    ((fail))
  all_goals go_wp2_with fail
  all_goals
    go_ret
    have hbo := ((Below.refl _ w).alloc (Nat.le_refl _) (.cells #[.string ⟨#[]⟩, .pointer (some ⟨x, 0, none⟩), .pointer (some ⟨y, 0, none⟩), .int .i64 (n : Int), .int .i64 (m : Int), .int .i64 (d : Int)] 110)).drew
    refine ⟨w.heap.size, rfl, ⟨x, y, ?_, HA.out.below hbo, HB.out.below hbo⟩, hbo⟩
    unfold nodeCells
    rw [← E1.out, ← E2.out, ← E3.out]
    exact heap_alloc_new w _
end Go.Proofs.Ytcjbhjbjkfgphaa

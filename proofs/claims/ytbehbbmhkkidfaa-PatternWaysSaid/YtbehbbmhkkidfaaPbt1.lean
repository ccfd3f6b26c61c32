/-
  The law's shapes in memory, and what stays while the law builds a tree of them. No condition.
-/
import Derived.Test.YtbehbbmhkkidfaaPwr4
import Derived.Test.YtbehbbmhkkidfaaPgr
import Derived.Test.YtbehbbmhkkidfaaPpll
namespace Go.Proofs.Ytbehbbmhkkidfaa
open Go.RowKit Go.Deep Go.Sort

/-- A shape as the law has it. -/
structure SM where
  grp : Bool
  c : Nat
  times : Bool
  lo : Int
  hi : Int
def SM.cells (s : SM) : List Value := [.bool s.grp, .int .u8 (s.c : Int), .bool s.times, .int .i64 s.lo, .int .i64 s.hi]
def smV (xs : List SM) : List Value := xs.flatMap SM.cells
def SM.ok (s : SM) : Prop := s.c < 256 ∧ -9223372036854775808 ≤ s.lo ∧ s.lo < 9223372036854775808 ∧ s.hi < 9223372036854775808
theorem smV_at : ∀ {xs : List SM} (i : Nat) (x : SM), xs[i]? = some x → ∀ (j : Nat) (v : Value), x.cells[j]? = some v → (smV xs)[i * 5 + j]? = some v
  | [], i, f, h, _, _, _ => by simp at h
  | a :: r, 0, f, h, j, v, hv => by
    simp at h
    subst h
    have hj : j < a.cells.length := (List.getElem?_eq_some_iff.1 hv).1
    simp only [smV, List.flatMap_cons, Nat.zero_mul, Nat.zero_add]
    rw [List.getElem?_append_left hj]
    exact hv
  | a :: r, i + 1, f, h, j, v, hv => by
    have := smV_at (xs := r) i f (by simpa using h) j v hv
    simp only [smV, List.flatMap_cons]
    have h3 : a.cells.length = 5 := rfl
    rw [List.getElem?_append_right (by omega), h3, show (i + 1) * 5 + j - 5 = i * 5 + j by omega]
    exact this
theorem sm_at {w : World} {A : Option Addr} {xs : List SM} (h : RawAt w A (smV xs)) {i : Nat} {x : SM} (hx : xs[i]? = some x) : ∃ b o, A = some ⟨b, o, none⟩ ∧ b < w.heap.size ∧
    w.cell? ⟨b, o + i * 5, none⟩ = some (.bool x.grp) ∧ w.cell? ⟨b, o + i * 5 + 1, none⟩ = some (.int .u8 (x.c : Int)) ∧ w.cell? ⟨b, o + i * 5 + 2, none⟩ = some (.bool x.times) ∧ w.cell? ⟨b, o + i * 5 + 3, none⟩ = some (.int .i64 x.lo) ∧ w.cell? ⟨b, o + i * 5 + 4, none⟩ = some (.int .i64 x.hi) := by
  rcases h with h | ⟨b, o, e, hr⟩
  · have := smV_at i x hx 0 _ rfl
    rw [h] at this
    simp at this
  · have hg : ∀ (j : Nat) (v : Value), x.cells[j]? = some v → w.cell? ⟨b, o + i * 5 + j, none⟩ = some v := fun j v hv => by
      rw [Nat.add_assoc]
      exact hr _ _ (smV_at i x hx j v hv)
    exact ⟨b, o, e, World.block_lt_of_cell? w _ (hg 0 _ rfl), hg 0 _ rfl, hg 1 _ rfl, hg 2 _ rfl, hg 3 _ rfl, hg 4 _ rfl⟩
mutual
/-- How many shapes a tree is made of. -/
def pcS : Sh → Nat
  | .mk _ _ _ ks => 1 + pcL ks
def pcL : List Sh → Nat
  | [] => 0
  | s :: r => pcS s + pcL r
end
theorem cntL_push (s : Sh) : ∀ L : List Sh, cntL (L ++ [s]) = cntL L + cntS s
  | [] => by simp [cntL]
  | a :: r => by simp only [List.cons_append, cntL, cntL_push s r]; omega
theorem pcL_push (s : Sh) : ∀ L : List Sh, pcL (L ++ [s]) = pcL L + pcS s
  | [] => by simp [pcL]
  | a :: r => by simp only [List.cons_append, pcL, pcL_push s r]; omega
theorem shPL_push (s : Sh) : ∀ (L : List Sh) (g : Nat), shPL (L ++ [s]) g = shPL L g ++ [shP s (g + cntL L)]
  | [], g => by simp [shPL, cntL]
  | a :: r, g => by simp only [List.cons_append, shPL, cntL, shPL_push s r, Nat.add_assoc]
theorem okL_push {s : Sh} (h : okS s) : ∀ L : List Sh, okL L → okL (L ++ [s])
  | [], _ => okL_cons h okL_nil
  | a :: r, k => by
    rw [okL.eq_2] at k
    exact okL_cons k.1 (okL_push h r k.2)
theorem thinL_push {s : Sh} (h : thinS s) : ∀ L : List Sh, thinL L → thinL (L ++ [s])
  | [], _ => by rw [List.nil_append, thinL.eq_2, thinL.eq_1]; exact ⟨h, trivial⟩
  | a :: r, k => by
    rw [thinL.eq_2] at k
    rw [List.cons_append, thinL.eq_2]
    exact ⟨k.1, thinL_push h r k.2⟩
/-- A node's box, as it is read and stored to. -/
structure BoxC (w : World) (b : Nat) (x : NV) : Prop where
  lt : b < w.heap.size
  c : w.cell? ⟨b, 0, none⟩ = some (.int .i64 x.kind) ∧ w.cell? ⟨b, 1, none⟩ = some (.int .u64 (x.set 0)) ∧ w.cell? ⟨b, 2, none⟩ = some (.int .u64 (x.set 1)) ∧ w.cell? ⟨b, 3, none⟩ = some (.int .u64 (x.set 2)) ∧ w.cell? ⟨b, 4, none⟩ = some (.int .u64 (x.set 3)) ∧ w.cell? ⟨b, 5, none⟩ = some (.int .i64 x.lo) ∧ w.cell? ⟨b, 6, none⟩ = some (.int .i64 x.hi) ∧ w.cell? ⟨b, 7, none⟩ = some (.int .i64 x.num) ∧ w.cell? ⟨b, 8, none⟩ = some (.slice x.A x.n x.c)
  f : w.frozen? ⟨b, 0, none⟩ = false ∧ w.frozen? ⟨b, 1, none⟩ = false ∧ w.frozen? ⟨b, 2, none⟩ = false ∧ w.frozen? ⟨b, 3, none⟩ = false ∧ w.frozen? ⟨b, 4, none⟩ = false ∧ w.frozen? ⟨b, 5, none⟩ = false ∧ w.frozen? ⟨b, 6, none⟩ = false ∧ w.frozen? ⟨b, 7, none⟩ = false ∧ w.frozen? ⟨b, 8, none⟩ = false
theorem BoxC.of {w : World} {b : Nat} {x : NV} (h : BoxN w b x) : BoxC w b x := ⟨h.lt, (box9 h).1, (box9 h).2⟩
theorem BoxC.turned {w w' : World} {b : Nat} {x : NV} (h : BoxC w b x) {S : Nat → Prop} (ht : Turned S w w') (hn : ¬ S b) : BoxC w' b x := by
  obtain ⟨hl, ⟨c0, c1, c2, c3, c4, c5, c6, c7, c8⟩, f0, f1, f2, f3, f4, f5, f6, f7, f8⟩ := h
  exact ⟨Nat.lt_of_lt_of_le hl ht.size, ⟨ht.cell c0 hn, ht.cell c1 hn, ht.cell c2 hn, ht.cell c3 hn, ht.cell c4 hn, ht.cell c5 hn, ht.cell c6 hn, ht.cell c7 hn, ht.cell c8 hn⟩,
    (ht.frozen hl hn).trans f0, (ht.frozen hl hn).trans f1, (ht.frozen hl hn).trans f2, (ht.frozen hl hn).trans f3, (ht.frozen hl hn).trans f4, (ht.frozen hl hn).trans f5, (ht.frozen hl hn).trans f6, (ht.frozen hl hn).trans f7, (ht.frozen hl hn).trans f8⟩
abbrev NoneB : Nat → Prop := fun _ => False
theorem BoxC.below {w w' : World} {b : Nat} {x : NV} (h : BoxC w b x) (hb : Below w.heap.size w w') : BoxC w' b x := h.turned (S := NoneB) (Turned.of_below hb) id
set_option maxHeartbeats 1000000 in
theorem BoxC.put {w : World} {b : Nat} {x : NV} (h : BoxC w b x) (y : NV) : BoxC (((((((((w.setCell ⟨b, 0, none⟩ (.int .i64 y.kind)).setCell ⟨b, 1, none⟩ (.int .u64 (y.set 0))).setCell ⟨b, 2, none⟩ (.int .u64 (y.set 1))).setCell ⟨b, 3, none⟩ (.int .u64 (y.set 2))).setCell ⟨b, 4, none⟩ (.int .u64 (y.set 3))).setCell ⟨b, 5, none⟩ (.int .i64 y.lo)).setCell ⟨b, 6, none⟩ (.int .i64 y.hi)).setCell ⟨b, 7, none⟩ (.int .i64 y.num)).setCell ⟨b, 8, none⟩ (.slice y.A y.n y.c)) b y := by
  obtain ⟨hl, ⟨c0, c1, c2, c3, c4, c5, c6, c7, c8⟩, f0, f1, f2, f3, f4, f5, f6, f7, f8⟩ := h
  refine ⟨by simp [hl], ⟨?_, ?_, ?_, ?_, ?_, ?_, ?_, ?_, ?_⟩, ?_, ?_, ?_, ?_, ?_, ?_, ?_, ?_, ?_⟩
  all_goals simp [go_sem, c0, c1, c2, c3, c4, c5, c6, c7, c8, f0, f1, f2, f3, f4, f5, f6, f7, f8]
end Go.Proofs.Ytbehbbmhkkidfaa
/-
  A round of the law's built: what stays. No condition.
-/
namespace Go.Proofs.Ytbehbbmhkkidfaa
open Go.RowKit Go.Deep Go.Sort

/-- What holds where a round begins. -/
structure BR (w w' : World) (L : List Sh) (xs : List NV) (g0 at0 a g : Nat) (v : Value) : Prop where
  b : Below w.heap.size w w'
  r : w'.ownsRow w.heap.size 30 9 v L.length (nsV xs)
  k : AllP (fun k => k < w.heap.size ∨ v.ownBlock = some k) w' (shPL L g0) xs
  ok : okL L ∧ thinL L ∧ L.length ≤ 5
  n : a = at0 + pcL L ∧ a ≤ 20 ∧ g = g0 + cntL L ∧ g ≤ 9
theorem BR.own {w w' : World} {L : List Sh} {xs : List NV} {g0 at0 a g : Nat} {v : Value} (h : BR w w' L xs g0 at0 a g v) (k : Nat) (hk : v.ownBlock = some k) : w.heap.size ≤ k ∧ k < w'.heap.size := World.ownsRow.lt h.r k hk
theorem BR.start (w : World) {g0 at0 : Nat} (ha : at0 ≤ 20) (hg : g0 ≤ 9) : BR w w [] [] g0 at0 at0 g0 (.slice none 0 0) :=
  ⟨Below.refl _ w, ⟨rfl, .inl ⟨rfl, rfl⟩⟩, by rw [shPL.eq_1]; exact AllP.nil _ _, ⟨okL_nil, by rw [thinL.eq_1]; trivial, Nat.zero_le _⟩, by simp [pcL, ha, cntL, hg]⟩
/-- A shape more: a row of one is made of it, and it is put behind. -/
theorem BR.push {w w1 w2 : World} {L : List Sh} {xs : List NV} {g0 at0 a g : Nat} {v : Value} {s : Sh} {y : NV} (h : BR w w1 L xs g0 at0 a g v) (h5 : L.length < 5) (hB2 : Below w1.heap.size w1 w2) (hy : IsP (· < w1.heap.size) w2 (shP s g) y) (hs : okS s ∧ thinS s) (ha : a + pcS s ≤ 20) (hg : g + cntS s ≤ 9) :
    let w3 := w2.alloc (.cells #[.int .i64 y.kind, .int .u64 (y.set 0), .int .u64 (y.set 1), .int .u64 (y.set 2), .int .u64 (y.set 3), .int .i64 y.lo, .int .i64 y.hi, .int .i64 y.num, .slice y.A y.n y.c] 30)
    w3.ownsRow w.heap.size 30 9 v L.length (nsV xs) ∧ RawAt w3 (some ⟨w2.heap.size, 0, none⟩) (nsV [y]) ∧ w.heap.size ≤ w3.heap.size ∧ L.length + 1 ≤ 1099511627776 ∧
    ∀ v' w4, w4.ownsRow w.heap.size 30 9 v' (L.length + 1) (nsV xs ++ nsV [y]) → Turned (fun j => v.ownBlock = some j) w3 w4 → (∀ k, v'.ownBlock = some k → v.ownBlock = some k ∨ w3.heap.size ≤ k) → BR w w4 (L ++ [s]) (xs ++ [y]) g0 at0 (a + pcS s) (g + cntS s) v' := by
  intro w3
  have hB : Below w2.heap.size w2 w3 := bA w2 _
  have hz := hB2.size
  have hz3 : w3.heap.size = w2.heap.size + 1 := by rw [World.size_alloc]
  have hb13 : Below w1.heap.size w1 w3 := hB2.trans (hB.mono hz)
  have hT3 : Turned (fun _ => False) w1 w3 := Turned.of_below hb13
  have hz1 := h.b.size
  have hn := h.n
  refine ⟨ownsRow_turned h.r hT3 (fun _ _ e => e), (row_one (S := fun _ => False) (w := w2) y (fun k h => h.elim) 30).raw, by omega, by omega, fun v' w4 hr hA hk => ?_⟩
  have kold : AllP (fun k => k < w.heap.size ∨ v.ownBlock = some k) w3 (shPL L g0) xs := h.k.turned (hT3.wider fun _ _ h => h.elim)
  have knew : IsP (fun k => k < w.heap.size ∨ v.ownBlock = some k) w3 (shP s g) y := (hy.turned (Turned.of_below hB)).weaken fun k hk => by
    rcases hk with hk | hk
    · omega
    · exact (h.own k hk).2
  have kall := kold.push knew
  have hS : ∀ k, (k < w.heap.size ∨ v'.ownBlock = some k) → (k < w.heap.size ∨ v.ownBlock = some k) ∨ w3.heap.size ≤ k := fun k h => by
    rcases h with h | h
    · exact .inl (.inl h)
    · rcases hk k h with h | h
      · exact .inl (.inr h)
      · exact .inr h
  have hsz := hA.size
  refine ⟨(h.b.trans (hb13.mono hz1)).trans (hA.below (B := w.heap.size) (by omega) (fun k hk => (h.own k hk).1)), ?_, ?_, ?_, ?_⟩
  · rw [List.length_append, nsV_append]
    exact hr
  · rw [shPL_push, ← hn.2.2.1]
    refine ⟨kall.1, fun i t x h1 h2 => ?_⟩
    exact ((kall.2 i t x h1 h2).fresh.turned (hA.wider fun k _ h => .inl (.inr h))).weaken hS
  · exact ⟨okL_push hs.1 L h.ok.1, thinL_push hs.2 L h.ok.2.1, by rw [List.length_append]; simp only [List.length_cons, List.length_nil]; omega⟩
  · rw [pcL_push, cntL_push]
    omega
/-- What the law's built answers. -/
def BAns (w : World) (g0 at0 : Nat) (e : Ending) (w' : World) : Prop := ∃ (L : List Sh) (xs : List NV) (A : Option Addr) (c a g : Nat), e = .returned (.tuple #[.slice A L.length c, .int .i64 (a : Int), .int .i64 ((g + 1 : Nat) : Int)]) ∧
  AllP (· < w.heap.size) w' (shPL L g0) xs ∧ L.length ≤ c ∧ RawOff (· < w.heap.size) w' A (nsV xs) ∧ Below w.heap.size w w' ∧ (okL L ∧ thinL L ∧ L.length ≤ 5) ∧ (a = at0 + pcL L ∧ a ≤ 20 ∧ g = g0 + cntL L ∧ g ≤ 9)
theorem BR.ans {w w' : World} {L : List Sh} {xs : List NV} {g0 at0 a g : Nat} {A : Option Addr} {c : Nat} (h : BR w w' L xs g0 at0 a g (.slice A L.length c)) (hc : L.length ≤ c) (hA : RawOff (· < w.heap.size) w' A (nsV xs)) : BAns w g0 at0 (.returned (.tuple #[.slice A L.length c, .int .i64 (a : Int), .int .i64 ((g + 1 : Nat) : Int)])) w' :=
  ⟨L, xs, A, c, a, g, rfl, ⟨h.k.1, fun i t x h1 h2 => (h.k.2 i t x h1 h2).weaken fun _k h => .inl h⟩, hc, hA, h.b, h.ok, h.n⟩
/-- In the middle of a round: the node is in its box, the shape in its own. -/
structure Mid (w1 wx : World) (X : SM) (b : Nat) (t : PN) (y : NV) : Prop where
  o : BoxC wx b y
  p : IsP (fun k => k < w1.heap.size ∨ k = b) wx t y
  bw : Below w1.heap.size w1 wx
  x : wx.heap[w1.heap.size]? = some (.cells #[.bool X.grp, .int .u8 (X.c : Int), .bool X.times, .int .i64 X.lo, .int .i64 X.hi] 56)
  l : w1.heap.size < b
end Go.Proofs.Ytbehbbmhkkidfaa

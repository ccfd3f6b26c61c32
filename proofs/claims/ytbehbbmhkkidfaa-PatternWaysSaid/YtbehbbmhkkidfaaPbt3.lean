/-
  A round of the law's built: the middle. No condition.
-/
import Derived.Test.YtbehbbmhkkidfaaPbt1
namespace Go.Proofs.Ytbehbbmhkkidfaa
open Go.RowKit Go.Deep Go.Sort

/-- What the law's built does, at a depth. -/
def BuiltOk (A : Option Addr) (ls : List SM) (cp d : Nat) : Prop := ∀ (w : World) (g0 at0 : Nat), RawAt w A (smV ls) → at0 ≤ 20 → g0 ≤ 9 →
  Calls Try.prog 10 #[.slice A ls.length cp, .int .i64 (at0 : Int), .int .i64 ((g0 + 1 : Nat) : Int), .int .i64 (d : Int)] w (BAns w g0 at0)
theorem mid_start {w1 w2 : World} {X : SM} {T : Nat → Nat} {r : Nat} (hb : Below (w1.alloc (.cells #[.bool X.grp, .int .u8 (X.c : Int), .bool X.times, .int .i64 X.lo, .int .i64 X.hi] 56)).heap.size (w1.alloc (.cells #[.bool X.grp, .int .u8 (X.c : Int), .bool X.times, .int .i64 X.lo, .int .i64 X.hi] 56)) w2) (hT : T = withS noS (97 + r) (97 + r)) :
    Mid w1 (w2.alloc (.cells #[.int .i64 1, .int .u64 (T 0), .int .u64 (T 1), .int .u64 (T 2), .int .u64 (T 3), .int .i64 0, .int .i64 0, .int .i64 0, .slice none 0 0] 30)) X w2.heap.size (.mk 1 (withS noS (97 + r) (97 + r)) 0 0 0 []) ⟨1, T, 0, 0, 0, none, 0, 0⟩ := by
  subst hT
  have hz := hb.size
  rw [World.size_alloc] at hz
  exact ⟨BoxC.of (BoxN.new w2 ⟨1, withS noS (97 + r) (97 + r), 0, 0, 0, none, 0, 0⟩), IsP.leaf _ _ _ _ _ _ _, ((bA w1 _).trans (hb.mono (by rw [World.size_alloc]; omega))).trans ((bA w2 _).mono (by omega)), old_obj (Below.obj hb (new_obj w1 _) (by rw [World.size_alloc]; omega)) _, by omega⟩
theorem Mid.shape {w1 wx : World} {X : SM} {b : Nat} {t : PN} {y : NV} (h : Mid w1 wx X b t y) : wx.cell? ⟨w1.heap.size, 0, none⟩ = some (.bool X.grp) ∧ wx.cell? ⟨w1.heap.size, 2, none⟩ = some (.bool X.times) ∧ wx.cell? ⟨w1.heap.size, 3, none⟩ = some (.int .i64 X.lo) ∧ wx.cell? ⟨w1.heap.size, 4, none⟩ = some (.int .i64 X.hi) := by
  refine ⟨?_, ?_, ?_, ?_⟩ <;> simp [World.cell?, h.x]
/-- Behind the group: where the next shape is, and the next group; the node's tree. -/
def GrpMid (w1 : World) (X : SM) (b r at1 g : Nat) (av gv : Value) (wx : World) : Prop := ∃ (q : Bool) (ks : List Sh) (y : NV) (a' g' : Nat), av = .int .i64 (a' : Int) ∧ gv = .int .i64 ((g' + 1 : Nat) : Int) ∧ Mid w1 wx X b (atomP q (UInt8.ofNat (97 + r)) g (shPL ks (g + 1))) y ∧
  (q = true → ks ≠ []) ∧ okL ks ∧ thinL ks ∧ ks.length ≤ 5 ∧ a' = at1 + pcL ks ∧ a' ≤ 20 ∧ g' = g + cntS (.mk q (UInt8.ofNat (97 + r)) none ks) ∧ g' ≤ 9
theorem ofNat_toNat {r : Nat} (h : r < 26) : (UInt8.ofNat (97 + r)).toNat = 97 + r := by simp [UInt8.toNat_ofNat']; omega
theorem GrpMid.none {w1 wx : World} {X : SM} {b r a g : Nat} {T : Nat → Nat} (h : Mid w1 wx X b (.mk 1 (withS noS (97 + r) (97 + r)) 0 0 0 []) ⟨1, T, 0, 0, 0, .none, 0, 0⟩) (hr : r < 26) (ha : a < 20) (hg : g ≤ 9) : GrpMid w1 X b r (a + 1) g (.int .i64 ((a : Int) + 1)) (.int .i64 ((g : Int) + 1)) wx := by
  refine ⟨false, [], _, a + 1, g, rfl, rfl, (?_ : Mid w1 wx X b _ ⟨1, T, 0, 0, 0, .none, 0, 0⟩), (fun h => by cases h), okL_nil, (by rw [thinL.eq_1]; trivial), Nat.zero_le _, (by simp [pcL]), (by omega), (by simp [cntS]), hg⟩
  simp only [atomP, oneN, ofNat_toNat hr]
  exact h
theorem Mid.below {w1 wx wy : World} {X : SM} {b : Nat} {t : PN} {y : NV} (h : Mid w1 wx X b t y) (hb : Below wx.heap.size wx wy) : Mid w1 wy X b t y :=
  ⟨h.o.below hb, h.p.stays hb, h.bw.trans (hb.mono h.bw.size), Below.obj hb h.x (lt_of_some h.x), h.l⟩
/-- The node is a group of what lies in the other box. -/
theorem Mid.group {w1 w5 : World} {X : SM} {b n : Nat} {t u : PN} {y z : NV} (h : Mid w1 w5 X b t y) (hz : IsP (· < n) w5 u z) (hbn : b < n) (hn : w1.heap.size ≤ n) (hn5 : n ≤ w5.heap.size) (num : Int) (o : Obj) :
    Mid w1 ((((((((((((w5.alloc o).alloc (.cells #[.int .i64 z.kind, .int .u64 (z.set 0), .int .u64 (z.set 1), .int .u64 (z.set 2), .int .u64 (z.set 3), .int .i64 z.lo, .int .i64 z.hi, .int .i64 z.num, .slice z.A z.n z.c] 30)).setCell ⟨b, 0, none⟩ (.int .i64 5)).setCell ⟨b, 1, none⟩ (.int .u64 0)).setCell ⟨b, 2, none⟩ (.int .u64 0)).setCell ⟨b, 3, none⟩ (.int .u64 0)).setCell ⟨b, 4, none⟩ (.int .u64 0)).setCell ⟨b, 5, none⟩ (.int .i64 0)).setCell ⟨b, 6, none⟩ (.int .i64 0)).setCell ⟨b, 7, none⟩ (.int .i64 num)).setCell ⟨b, 8, none⟩ (.slice (some ⟨w5.heap.size + 1, 0, none⟩) 1 1))) X b (.mk 5 noS 0 0 num [u]) ⟨5, noS, 0, 0, num, some ⟨w5.heap.size + 1, 0, none⟩, 1, 1⟩ := by
  have hB : Below w5.heap.size w5 ((w5.alloc o).alloc (.cells #[.int .i64 z.kind, .int .u64 (z.set 0), .int .u64 (z.set 1), .int .u64 (z.set 2), .int .u64 (z.set 3), .int .i64 z.lo, .int .i64 z.hi, .int .i64 z.num, .slice z.A z.n z.c] 30)) := (bA w5 o).alloc (by rw [World.size_alloc]; omega) _
  have h7 := h.below hB
  have hrow := row_one (S := (· < n)) (w := w5.alloc o) z (fun k hk => by have : k < n := hk; rw [World.size_alloc]; omega) 30
  rw [World.size_alloc] at hrow
  have hP := (AllP.one (hz.stays hB)).node (Nat.le_refl _) hrow 5 noS 0 0 num
  have hT := (Turned.refl (· = b) ((w5.alloc o).alloc (.cells #[.int .i64 z.kind, .int .u64 (z.set 0), .int .u64 (z.set 1), .int .u64 (z.set 2), .int .u64 (z.set 3), .int .i64 z.lo, .int .i64 z.hi, .int .i64 z.num, .slice z.A z.n z.c] 30))).puts9 rfl (.int .i64 5) (.int .u64 0) (.int .u64 0) (.int .u64 0) (.int .u64 0) (.int .i64 0) (.int .i64 0) (.int .i64 num) (.slice (some ⟨w5.heap.size + 1, 0, none⟩) 1 1)
  have hl := h.l
  refine ⟨h7.o.put ⟨5, noS, 0, 0, num, some ⟨w5.heap.size + 1, 0, none⟩, 1, 1⟩, (hP.turned (hT.wider fun k _ hk => by rw [hk]; exact hbn)).weaken fun k hk => by
    rcases hk with hk | hk
    · exact Nat.lt_of_lt_of_le hk hn
    · rw [hk]; exact hbn, h7.bw.trans (hT.below (B := w1.heap.size) h7.bw.size (fun k hk => by omega)), hT.obj h7.x (by omega), hl⟩
/-- The node is a repeat of what it was. -/
theorem Mid.rep {w1 w5 : World} {X : SM} {b : Nat} {t : PN} {y : NV} (h : Mid w1 w5 X b t y) (lo hi : Int) :
    Mid w1 ((((((((((w5.alloc (.cells #[.int .i64 y.kind, .int .u64 (y.set 0), .int .u64 (y.set 1), .int .u64 (y.set 2), .int .u64 (y.set 3), .int .i64 y.lo, .int .i64 y.hi, .int .i64 y.num, .slice y.A y.n y.c] 30)).setCell ⟨b, 0, none⟩ (.int .i64 4)).setCell ⟨b, 1, none⟩ (.int .u64 0)).setCell ⟨b, 2, none⟩ (.int .u64 0)).setCell ⟨b, 3, none⟩ (.int .u64 0)).setCell ⟨b, 4, none⟩ (.int .u64 0)).setCell ⟨b, 5, none⟩ (.int .i64 lo)).setCell ⟨b, 6, none⟩ (.int .i64 hi)).setCell ⟨b, 7, none⟩ (.int .i64 0)).setCell ⟨b, 8, none⟩ (.slice (some ⟨w5.heap.size, 0, none⟩) 1 1)) X b (.mk 4 noS lo hi 0 [t]) ⟨4, noS, lo, hi, 0, some ⟨w5.heap.size, 0, none⟩, 1, 1⟩ := by
  have hB : Below w5.heap.size w5 (w5.alloc (.cells #[.int .i64 y.kind, .int .u64 (y.set 0), .int .u64 (y.set 1), .int .u64 (y.set 2), .int .u64 (y.set 3), .int .i64 y.lo, .int .i64 y.hi, .int .i64 y.num, .slice y.A y.n y.c] 30)) := bA w5 _
  have h7 := h.below hB
  have hl := h.l
  have hs := h.bw.size
  have hbl := h.o.lt
  have hrow := row_one (S := fun k => k < w1.heap.size ∨ k = b) (w := w5) y (fun k hk => by rcases hk with hk | hk <;> omega) 30
  have hP := (AllP.one (h.p.stays hB)).node (Nat.le_refl _) hrow 4 noS lo hi 0
  have hT := (Turned.refl (· = b) (w5.alloc (.cells #[.int .i64 y.kind, .int .u64 (y.set 0), .int .u64 (y.set 1), .int .u64 (y.set 2), .int .u64 (y.set 3), .int .i64 y.lo, .int .i64 y.hi, .int .i64 y.num, .slice y.A y.n y.c] 30))).puts9 rfl (.int .i64 4) (.int .u64 0) (.int .u64 0) (.int .u64 0) (.int .u64 0) (.int .i64 lo) (.int .i64 hi) (.int .i64 0) (.slice (some ⟨w5.heap.size, 0, none⟩) 1 1)
  exact ⟨h7.o.put ⟨4, noS, lo, hi, 0, some ⟨w5.heap.size, 0, none⟩, 1, 1⟩, hP.turned (hT.wider fun k _ hk => .inr hk), h7.bw.trans (hT.below (B := w1.heap.size) h7.bw.size (fun k hk => by omega)), hT.obj h7.x (by omega), hl⟩
/-- Behind the repeat: the node's tree. -/
def RepMid (w1 : World) (X : SM) (b : Nat) (t : PN) (wx : World) : Prop := ∃ (rep : Option (Nat × Int)) (y : NV), Mid w1 wx X b (repO rep t) y ∧ ∀ p, rep = some p → p.1 ≤ 20 ∧ p.2 ≤ 20 ∧ (p.2 = -1 ∨ (p.1 : Int) ≤ p.2)
theorem rep_mid_none {w1 wx : World} {X : SM} {b : Nat} {t : PN} {y : NV} (h : Mid w1 wx X b t y) : RepMid w1 X b t wx := ⟨.none, y, h, fun p hp => by cases hp⟩
theorem sets9 {w5 : World} {b : Nat} (hb : b < w5.heap.size) (o : Obj) (v0 v1 v2 v3 v4 v5 v6 v7 v8 : Value) : (((((((((w5.alloc o).setCell ⟨b, 0, none⟩ v0).setCell ⟨b, 1, none⟩ v1).setCell ⟨b, 2, none⟩ v2).setCell ⟨b, 3, none⟩ v3).setCell ⟨b, 4, none⟩ v4).setCell ⟨b, 5, none⟩ v5).setCell ⟨b, 6, none⟩ v6).setCell ⟨b, 7, none⟩ v7).setCell ⟨b, 8, none⟩ v8 = (((((((((w5.setCell ⟨b, 0, none⟩ v0).setCell ⟨b, 1, none⟩ v1).setCell ⟨b, 2, none⟩ v2).setCell ⟨b, 3, none⟩ v3).setCell ⟨b, 4, none⟩ v4).setCell ⟨b, 5, none⟩ v5).setCell ⟨b, 6, none⟩ v6).setCell ⟨b, 7, none⟩ v7).setCell ⟨b, 8, none⟩ v8).alloc o := by
  rw [World.setCell_alloc_past _ _ _ _ hb, World.setCell_alloc_past _ _ _ _ (by simpa using hb), World.setCell_alloc_past _ _ _ _ (by simpa using hb), World.setCell_alloc_past _ _ _ _ (by simpa using hb), World.setCell_alloc_past _ _ _ _ (by simpa using hb), World.setCell_alloc_past _ _ _ _ (by simpa using hb), World.setCell_alloc_past _ _ _ _ (by simpa using hb), World.setCell_alloc_past _ _ _ _ (by simpa using hb), World.setCell_alloc_past _ _ _ _ (by simpa using hb)]
theorem rep_mid_some {w1 w5 wx : World} {X : SM} {b : Nat} {t : PN} {y : NV} (h : Mid w1 w5 X b t y) (lo : Nat) (hi : Int) (h1 : lo ≤ 20) (h2 : hi ≤ 20) (h3 : hi = -1 ∨ (lo : Int) ≤ hi) (hw : wx = (((((((((w5.setCell ⟨b, 0, none⟩ (.int .i64 4)).setCell ⟨b, 1, none⟩ (.int .u64 0)).setCell ⟨b, 2, none⟩ (.int .u64 0)).setCell ⟨b, 3, none⟩ (.int .u64 0)).setCell ⟨b, 4, none⟩ (.int .u64 0)).setCell ⟨b, 5, none⟩ (.int .i64 (lo : Int))).setCell ⟨b, 6, none⟩ (.int .i64 hi)).setCell ⟨b, 7, none⟩ (.int .i64 0)).setCell ⟨b, 8, none⟩ (.slice (some ⟨w5.heap.size, 0, none⟩) 1 1)).alloc (.cells #[.int .i64 y.kind, .int .u64 (y.set 0), .int .u64 (y.set 1), .int .u64 (y.set 2), .int .u64 (y.set 3), .int .i64 y.lo, .int .i64 y.hi, .int .i64 y.num, .slice y.A y.n y.c] 30)) : RepMid w1 X b t wx := by
  rw [← sets9 h.o.lt] at hw
  subst hw
  exact ⟨.some (lo, hi), _, h.rep (lo : Int) hi, fun p hp => by cases hp; exact ⟨h1, h2, h3⟩⟩
theorem rep_low {x : Int} (h0 : 0 ≤ x) : ∃ l : Nat, x.tmod 21 = (l : Int) ∧ l ≤ 20 := by
  refine ⟨(x.tmod 21).toNat, ?_, ?_⟩ <;> rw [Int.tmod_eq_emod_of_nonneg h0] <;> omega
theorem rep_high {x : Int} (h0 : 0 ≤ x) {l : Nat} (hl : l ≤ 20) : ∃ k : Nat, x.tmod (21 - (l : Int)) = (k : Int) ∧ l + k ≤ 20 := by
  have hd : (0 : Int) < 21 - (l : Int) := by omega
  have h1 := Int.emod_nonneg x (show (21 - (l : Int)) ≠ 0 by omega)
  have h2 := Int.emod_lt_of_pos x hd
  refine ⟨(x.tmod (21 - (l : Int))).toNat, ?_, ?_⟩ <;> rw [Int.tmod_eq_emod_of_nonneg h0] <;> omega
theorem plain_of {r : Nat} (h : r < 26) : Plain (UInt8.ofNat (97 + r)) := by
  unfold Plain
  simp only [UInt8.le_iff_toNat_le, ofNat_toNat h]
  left
  constructor <;> simp <;> omega
/-- Behind the group: whatever the world is. -/
theorem grp_mid_some {w1 w5 wx : World} {X : SM} {b n r at1 g a' g' : Nat} {t : PN} {y z : NV} {av gv : Value} {L : List Sh} (h : Mid w1 w5 X b t y) (hz : IsP (· < n) w5 (joinK 2 (shPL L (g + 1))) z) (hbn : b < n) (hn : w1.heap.size ≤ n) (hn5 : n ≤ w5.heap.size) (o : Obj)
    (hav : av = .int .i64 (a' : Int)) (hgv : gv = .int .i64 ((g' + 1 : Nat) : Int)) (h0 : L ≠ []) (h1 : okL L) (h2 : thinL L) (h3 : L.length ≤ 5) (h4 : a' = at1 + pcL L) (h5 : a' ≤ 20) (h6 : g' = g + cntS (.mk true (UInt8.ofNat (97 + r)) none L)) (h7 : g' ≤ 9)
    (hw : wx = ((((((((((w5.setCell ⟨b, 0, none⟩ (.int .i64 5)).setCell ⟨b, 1, none⟩ (.int .u64 0)).setCell ⟨b, 2, none⟩ (.int .u64 0)).setCell ⟨b, 3, none⟩ (.int .u64 0)).setCell ⟨b, 4, none⟩ (.int .u64 0)).setCell ⟨b, 5, none⟩ (.int .i64 0)).setCell ⟨b, 6, none⟩ (.int .i64 0)).setCell ⟨b, 7, none⟩ (.int .i64 ((g : Int) + 1))).setCell ⟨b, 8, none⟩ (.slice (some ⟨w5.heap.size + 1, 0, none⟩) 1 1)).alloc o).alloc (.cells #[.int .i64 z.kind, .int .u64 (z.set 0), .int .u64 (z.set 1), .int .u64 (z.set 2), .int .u64 (z.set 3), .int .i64 z.lo, .int .i64 z.hi, .int .i64 z.num, .slice z.A z.n z.c] 30)) : GrpMid w1 X b r at1 g av gv wx := by
  rw [← sets9 h.o.lt, ← sets9 (by rw [World.size_alloc]; exact Nat.lt_succ_of_lt h.o.lt)] at hw
  subst hw
  have h8 := Mid.group h hz hbn hn hn5 ((g : Int) + 1) o
  exact ⟨true, L, ⟨5, noS, 0, 0, (g : Int) + 1, some ⟨w5.heap.size + 1, 0, none⟩, 1, 1⟩, a', g', hav, hgv, h8, fun _ => h0, h1, h2, h3, h4, h5, h6, h7⟩
end Go.Proofs.Ytbehbbmhkkidfaa

/-
 Package replace's Replace, walked: what it answers. Conditions: the tree is of at most 100000 nodes, the template has at most a million pieces.
-/
import Derived.Test.YtflkfleihlceeaaGreatDoorR14
import Derived.RegionIn
namespace Go.Proofs.YtflkfleihlceeaaGreatDoor
open Go.RowKit Go.Deep Go.Shelf

attribute [local go_sem] Oper.semAt_some

def fillF (s : ByteArray) (xs : List Pc) (sp : Sp) : List UInt8 := flatB (xs.map (pieP s sp))
def RepAns (t : PN) (xs : List Pc) (s : ByteArray) (c : Int) (all : Bool) (w : World) (e : Ending) (w' : World) : Prop := Below w.heap.size w w' ∧
 ((c < 1 /\ e = .returned (.tuple #[.string ⟨#[]⟩, .int .i64 0, .int .i64 1])) ∨
  (1 <= c /\ 1024 < s.size /\ e = .returned (.tuple #[.string ⟨#[]⟩, .int .i64 0, .int .i64 161])) ∨
  (1 <= c /\ s.size <= 1024 /\ ∃ ms, MatL s.data.toList t 0 (-1) ms ∧
   (((repF s.data.toList (fillF s xs) 0 (choP c.toNat all ms)).length <= 1024 /\ e = .returned (.tuple #[.string (txt (repF s.data.toList (fillF s xs) 0 (choP c.toNat all ms))), .int .i64 ((choP c.toNat all ms).length : Int), .int .i64 0])) ∨
    (1024 < (repF s.data.toList (fillF s xs) 0 (choP c.toNat all ms)).length /\ e = .returned (.tuple #[.string ⟨#[]⟩, .int .i64 0, .int .i64 161])))))
def pR (w : World) (k : Nat) (t : TypeId) : Prop := (w.heap.size + 9 <= k /\ t ≠ 5 /\ t ≠ 4) \/ (k = w.heap.size + 12 /\ t = 4)
def pR2 (w : World) (k : Nat) (t : TypeId) : Prop := pR w k t \/ (w.heap.size <= k /\ k < w.heap.size + 9 /\ k ≠ w.heap.size + 6)
theorem pR2_no {w : World} {k : Nat} (h : w.heap.size + 13 <= k) : ¬ pR2 w k 5 /\ ¬ pR2 w k 4 := by
 refine ⟨fun h2 => ?_, fun h2 => ?_⟩
 ·rcases h2 with (⟨_, h3, _⟩ | ⟨h3, _⟩) | ⟨_, h3, _⟩
  ·exact h3 rfl
  ·omega
  ·omega
 ·rcases h2 with (⟨_, _, h3⟩ | ⟨h3, _⟩) | ⟨_, h3, _⟩
  ·exact h3 rfl
  ·omega
  ·omega
theorem pR_low {w : World} {k : Nat} {t : TypeId} (h : k < w.heap.size + 9) : ¬ pR w k t := fun h2 => by
 rcases h2 with ⟨h3, _⟩ | ⟨h3, _⟩ <;> omega
structure RplI (w : World) (T : List UInt8) (f : Sp -> List UInt8) (bs : List (Nat × Array Value × TypeId)) (m : Nat) (pre : List Sp) (V : World) : Prop where
 r : ResAt w.heap.size (pR2 w) (w.heap.size + 6) (soF T f ([], 0) pre).1 V
 l : (soF T f ([], 0) pre).1.length <= 1024
 fb : V.heap[w.heap.size + 7]? = some (.cells #[.int .i64 ((soF T f ([], 0) pre).2 : Int)] 3 (0, 0))
 kb : V.heap[w.heap.size + 8]? = some (.cells #[.int .i64 (pre.length : Int)] 3 (0, 0))
 bx : ∀ (k : Nat) (x : Nat × Array Value × TypeId), bs[k]? = some x -> V.heap[x.1]? = some (.cells x.2.1 x.2.2 (0, 0))
 q : Below w.heap.size w V
 m : m <= V.heap.size
structure RplX (w : World) (T : List UInt8) (f : Sp -> List UInt8) (m : Nat) (pre : List Sp) (V : World) : Prop where
 l : 1024 < (soF T f ([], 0) pre).1.length
 b3 : V.heap[w.heap.size + 3]? = some (.cells #[.string ⟨#[]⟩] 9 (0, 0))
 b4 : V.heap[w.heap.size + 4]? = some (.cells #[.int .i64 0] 3 (0, 0))
 b5 : V.heap[w.heap.size + 5]? = some (.cells #[.int .i64 161] 39 (0, 0))
 q : Below w.heap.size w V
 m : m <= V.heap.size
theorem RplI.own {w : World} {T : List UInt8} {f : Sp -> List UInt8} {bs : List (Nat × Array Value × TypeId)} {m : Nat} {pre : List Sp} {A V : World} {row : Option Nat} (h : RplI w T f bs m pre A) (hm : w.heap.size + 9 <= m) (hbs : ∀ (k : Nat) (x : Nat × Array Value × TypeId), bs[k]? = some x -> x.1 < m) (hg : A.grownBy V row) (hr : ∀ r, row = some r -> m <= r /\ ∃ o : Obj, A.heap[r]? = some o /\ (o.isCells = false \/ ∃ cs fr, o = .cells cs 3 fr)) : RplI w T f bs m pre V := by
 have key : ∀ (k : Nat) (o : Obj), k < m -> A.heap[k]? = some o -> V.heap[k]? = some o := fun k o hk ho => (hg.block k (lts ho) fun e => by have := (hr k e.symm).1; omega).trans ho;exact ⟨h.r.grownI hg fun k e => (hr k e).2, h.l, key _ _ (by omega) h.fb, key _ _ (by omega) h.kb, fun k x hx => key _ _ (hbs k x hx) (h.bx k x hx), h.q.trans ⟨hg.os, hg.tape, hg.output, hg.size, fun k hk => hg.block k (by have := h.m; omega) fun e => by have := (hr k e.symm).1; omega⟩, Nat.le_trans h.m hg.size⟩
theorem RplX.own {w : World} {T : List UInt8} {f : Sp -> List UInt8} {m : Nat} {pre : List Sp} {A V : World} {row : Option Nat} (h : RplX w T f m pre A) (hm : w.heap.size + 9 <= m) (hg : A.grownBy V row) (hr : ∀ r, row = some r -> m <= r /\ ∃ o : Obj, A.heap[r]? = some o /\ o.isCells = false) : RplX w T f m pre V := by
 have key : ∀ (k : Nat) (o : Obj), k < m -> A.heap[k]? = some o -> V.heap[k]? = some o := fun k o hk ho => (hg.block k (lts ho) fun e => by have := (hr k e.symm).1; omega).trans ho;exact ⟨h.l, key _ _ (by omega) h.b3, key _ _ (by omega) h.b4, key _ _ (by omega) h.b5, h.q.trans ⟨hg.os, hg.tape, hg.output, hg.size, fun k hk => hg.block k (by have := h.m; omega) fun e => by have := (hr k e.symm).1; omega⟩, Nat.le_trans h.m hg.size⟩
theorem err_cells {w V : World} (h3 : V.heap[w.heap.size + 3]? = some (.cells #[.string ⟨#[]⟩] 9 (0, 0))) (h4 : V.heap[w.heap.size + 4]? = some (.cells #[.int .i64 0] 3 (0, 0))) (h5 : V.heap[w.heap.size + 5]? = some (.cells #[.int .i64 0] 39 (0, 0))) :
  V.cell? ⟨w.heap.size + 3, 0, none⟩ = some (.string ⟨#[]⟩) /\ V.frozen? ⟨w.heap.size + 3, 0, none⟩ = false ∧
  (V.setCell ⟨w.heap.size + 3, 0, none⟩ (.string ⟨#[]⟩)).cell? ⟨w.heap.size + 4, 0, none⟩ = some (.int .i64 0) /\ (V.setCell ⟨w.heap.size + 3, 0, none⟩ (.string ⟨#[]⟩)).frozen? ⟨w.heap.size + 4, 0, none⟩ = false ∧
  ((V.setCell ⟨w.heap.size + 3, 0, none⟩ (.string ⟨#[]⟩)).setCell ⟨w.heap.size + 4, 0, none⟩ (.int .i64 0)).cell? ⟨w.heap.size + 5, 0, none⟩ = some (.int .i64 0) /\ ((V.setCell ⟨w.heap.size + 3, 0, none⟩ (.string ⟨#[]⟩)).setCell ⟨w.heap.size + 4, 0, none⟩ (.int .i64 0)).frozen? ⟨w.heap.size + 5, 0, none⟩ = false := by
 have p3 := put_at (.string ⟨#[]⟩) h3;have h4' := p3.keep h4 (.inl (by omega));have p4 := put_at (.int .i64 0) h4';have h5' := p4.keep (p3.keep h5 (.inl (by omega))) (.inl (by omega));exact ⟨obc h3 0, frozen_of_row _ _ 0 _ _ h3, obc h4' 0, frozen_of_row _ _ 0 _ _ h4', obc h5' 0, frozen_of_row _ _ 0 _ _ h5'⟩
theorem choP_len (c : Nat) (all : Bool) (xs : List Sp) : (choP c all xs).length <= xs.length := by
 unfold choP;split
 ·simp
 ·simp;omega
abbrev bsR (w : World) (A : Option Addr) (n cl : Nat) (s : ByteArray) : List (Nat × Array Value × TypeId) := [(w.heap.size + 1, #[.slice A n cl], 53), (w.heap.size + 2, #[.string s], 9), (w.heap.size + 3, #[.string ⟨#[]⟩], 9), (w.heap.size + 4, #[.int .i64 0], 3), (w.heap.size + 5, #[.int .i64 0], 39)]
theorem bsR_in {w : World} {A : Option Addr} {n cl : Nat} {s : ByteArray} : ∀ (k : Nat) (x : Nat × Array Value × TypeId), (bsR w A n cl s)[k]? = some x -> w.heap.size <= x.1 /\ x.1 < w.heap.size + 6
 | 0, x, h => by cases h; exact ⟨by omega, by show w.heap.size + 1 < w.heap.size + 6; omega⟩
 | 1, x, h => by cases h; exact ⟨by omega, by show w.heap.size + 2 < w.heap.size + 6; omega⟩
 | 2, x, h => by cases h; exact ⟨by omega, by show w.heap.size + 3 < w.heap.size + 6; omega⟩
 | 3, x, h => by cases h; exact ⟨by omega, by show w.heap.size + 4 < w.heap.size + 6; omega⟩
 | 4, x, h => by cases h; exact ⟨by omega, by show w.heap.size + 5 < w.heap.size + 6; omega⟩
 | _ + 5, x, h => by simp at h
theorem rpl_fail {w V V2 : World} {T : List UInt8} {f : Sp -> List UInt8} {A : Option Addr} {n cl m m2 : Nat} {s : ByteArray} {pre : List Sp} {x : Sp} (hI : RplI w T f (bsR w A n cl s) m pre V) (ho : KeepsOthers V V2) (hq : Kq w.heap.size (pR2 w) V V2) (hl : 1024 < (soF T f ([], 0) (pre ++ [x])).1.length) :
  let V' := ((V2.setCell ⟨w.heap.size + 3, 0, none⟩ (.string ⟨#[]⟩)).setCell ⟨w.heap.size + 4, 0, none⟩ (.int .i64 0)).setCell ⟨w.heap.size + 5, 0, none⟩ (.int .i64 161)
  KeepsOthers V V' /\ Kr w.heap.size (pR w) m2 V V' /\ RplX w T f m (pre ++ [x]) V' := by
 intro V';have h3 := hq.2 _ _ _ _ (hI.bx 2 _ rfl) (.inr ⟨by omega, by omega, by omega⟩);have h4 := hq.2 _ _ _ _ (hI.bx 3 _ rfl) (.inr ⟨by omega, by omega, by omega⟩);have h5 := hq.2 _ _ _ _ (hI.bx 4 _ rfl) (.inr ⟨by omega, by omega, by omega⟩);have p3 := put_at (.string ⟨#[]⟩) h3;have p4 := put_at (.int .i64 0) (p3.keep h4 (.inl (by omega)));have p5 := put_at (.int .i64 161) (p4.keep (p3.keep h5 (.inl (by omega))) (.inl (by omega)));have hO : KeepsOthers V V' := others_trans ho (others_trans p3.others (others_trans p4.others p5.others));have hK : Kq w.heap.size (pR w) V V' := Kq.trans ⟨hq.1, fun k cs t fr hk hp => hq.2 k cs t fr hk (.inl hp)⟩ ((p3.kq (by omega) (pR_low (by omega))).trans ((p4.kq (by omega) (pR_low (by omega))).trans (p5.kq (by omega) (pR_low (by omega)))));exact ⟨hO, ⟨hK, Stay.of_others hO⟩, hl, p5.keep (p4.keep p3.same (.inl (by omega))) (.inl (by omega)), p5.keep p4.same (.inl (by omega)), p5.same, hI.q.trans hK.1, Nat.le_trans hI.m hO.1⟩
theorem rpl_more {w V V4 : World} {T : List UInt8} {f : Sp -> List UInt8} {A : Option Addr} {n cl m m2 z k1 : Nat} {s : ByteArray} {pre : List Sp} {x : Sp} (hI : RplI w T f (bsR w A n cl s) m pre V) (ho : KeepsOthers V V4) (hq : Kq w.heap.size (pR2 w) V V4) (hl : (soF T f ([], 0) (pre ++ [x])).1.length <= 1024)
  (hr : ResAt w.heap.size (pR2 w) (w.heap.size + 6) (soF T f ([], 0) (pre ++ [x])).1 V4) (hz : (soF T f ([], 0) (pre ++ [x])).2 = z) (hk : k1 = pre.length + 1) :
  let V' := (V4.setCell ⟨w.heap.size + 7, 0, none⟩ (.int .i64 (z : Int))).setCell ⟨w.heap.size + 8, 0, none⟩ (.int .i64 (k1 : Int))
  KeepsOthers V V' /\ Kr w.heap.size (pR w) m2 V V' /\ RplI w T f (bsR w A n cl s) m (pre ++ [x]) V' := by
 intro V';have h7 := hq.2 _ _ _ _ hI.fb (.inr ⟨by omega, by omega, by omega⟩);have h8 := hq.2 _ _ _ _ hI.kb (.inr ⟨by omega, by omega, by omega⟩);have p7 := put_at (.int .i64 (z : Int)) h7;have p8 := put_at (.int .i64 (k1 : Int)) (p7.keep h8 (.inl (by omega)));have hO : KeepsOthers V V' := others_trans ho (others_trans p7.others p8.others);have hK : Kq w.heap.size (pR w) V V' := Kq.trans ⟨hq.1, fun k cs t fr hk hp => hq.2 k cs t fr hk (.inl hp)⟩ ((p7.kq (by omega) (pR_low (by omega))).trans (p8.kq (by omega) (pR_low (by omega))));refine ⟨hO, ⟨hK, Stay.of_others hO⟩, p8.res (p7.res hr (by decide) (by decide)) (by decide) (by decide), hl, by rw [hz]; exact p8.keep p7.same (.inl (by omega)), by rw [List.length_append, List.length_singleton, <- hk]; exact p8.same, fun k y hy => ?_, hI.q.trans hK.1, Nat.le_trans hI.m hO.1⟩;obtain ⟨b1, b2⟩ := bsR_in k y hy;exact p8.keep (p7.keep (hq.2 _ _ _ _ (hI.bx k y hy) (.inr ⟨b1, by omega, by omega⟩)) (.inl (by omega))) (.inl (by omega))
set_option maxRecDepth 100000 in
set_option maxHeartbeats 8000000 in
theorem replace_is {w : World} {t : PN} {y : NV} {xs : List Pc} {A : Option Addr} {cl : Nat} {s : ByteArray} (c : Int) (all : Bool) (hy : IsP (fun _ => False) w t y) (hD : DebAt w) (ht : nodT t <= 100000) (hr : RawAt w A (pcsV xs)) (hn : xs.length <= 1000000) :
  Calls Tryz.prog 22 #[y.v, .slice A xs.length cl, .string s, .int .i64 c, .bool all] w (RepAns t xs s c all w) := by
 unfold RepAns;refine (callsIn_wide (n := 8)).1 ?_;have HT := lh (aI hy (aI hD (aI ht (aI hr hn))));clear hy hD ht hr hn;rw [NV.v_eq];obtain ⟨n, hn⟩ : ∃ n, n = xs.length := ⟨_, rfl⟩;rw [<- hn];have HN := lh hn;clear hn;refine callsIn_of_wp_marks Tryz.func22 rfl (wide_fn _) ?_ wide_round;simp only [Tryz.ntmps22, List.size_toArray, List.length_cons, List.length_nil, Nat.reduceAdd, Nat.reduceSub, Array.replicate_succ, Array.replicate_zero, List.push_toArray, List.append_toArray, List.nil_append, List.cons_append];by_cases hc : c < 1
 ·have d1 : decide (c < 1) = true := dqt hc;have HC := lh hc;clear hc;gi_wp2_with fail
  obtain ⟨hbx, hbw, _⟩ := allocs_at [(#[.int .i64 y.kind, .int .u64 (y.set 0), .int .u64 (y.set 1), .int .u64 (y.set 2), .int .u64 (y.set 3), .int .i64 y.lo, .int .i64 y.hi, .int .i64 y.num, .slice y.A y.n y.c], 28), (#[.slice A n cl], 53), (#[.string s], 9), (#[.string ⟨#[]⟩], 9), (#[.int .i64 0], 3), (#[.int .i64 1], 39)] w;exact ⟨_, res_three rfl _ _ (w.heap.size + 3) (w.heap.size + 4) (w.heap.size + 5) ⟨#[]⟩ 0 1 rfl rfl rfl (obc (hbx 3 _ rfl) 0) (obc (hbx 4 _ rfl) 0) (obc (hbx 5 _ rfl) 0), hbw, .inl ⟨HC.out, rfl⟩⟩
 have d1 : decide (c < 1) = false := dqf hc;by_cases hs : 1024 < s.size
 ·have d2 : decide ((1024 : Int) < (s.size : Int)) = true := dqt (by omega);have d2n : decide (1024 < s.size) = true := dqt hs;have HC := lh (aI hc hs);clear hc hs;gi_wp2_with fail
  obtain ⟨hbx, hbw, _⟩ := allocs_at [(#[.int .i64 y.kind, .int .u64 (y.set 0), .int .u64 (y.set 1), .int .u64 (y.set 2), .int .u64 (y.set 3), .int .i64 y.lo, .int .i64 y.hi, .int .i64 y.num, .slice y.A y.n y.c], 28), (#[.slice A n cl], 53), (#[.string s], 9), (#[.string ⟨#[]⟩], 9), (#[.int .i64 0], 3), (#[.int .i64 161], 39)] w;exact ⟨_, res_three rfl _ _ (w.heap.size + 3) (w.heap.size + 4) (w.heap.size + 5) ⟨#[]⟩ 0 161 rfl rfl rfl (obc (hbx 3 _ rfl) 0) (obc (hbx 4 _ rfl) 0) (obc (hbx 5 _ rfl) 0), hbw, .inr (.inl ⟨by have := HC.out; omega, HC.out.2, rfl⟩)⟩
 have d2 : decide ((1024 : Int) < (s.size : Int)) = false := dqf (by omega);have d2n : decide (1024 < s.size) = false := dqf hs;obtain ⟨c, rfl⟩ : ∃ k : Nat, c = (k : Int) := ⟨c.toNat, by omega⟩;have HC := lh (show 1 <= c /\ s.size <= 1024 from ⟨by omega, by omega⟩);have hm := fun V => chosen_made y s (c : Int) all V;simp only [NV.v_eq] at hm;have HM := lh fun (V : World) => (callsIn_wide (n := 7)).2 (hm V);clear hc hs hm;gi_wp2_with (refine ⟨trivial, ?_⟩; gi_at_call 37; (with_reducible refine (HM.out _).mono ?_); rintro e w3 ⟨rfl, hw3⟩; have HW3 := lh hw3; clear hw3)
 obtain ⟨hbx, hbw, hsz⟩ := allocs_at [(#[.int .i64 y.kind, .int .u64 (y.set 0), .int .u64 (y.set 1), .int .u64 (y.set 2), .int .u64 (y.set 3), .int .i64 y.lo, .int .i64 y.hi, .int .i64 y.num, .slice y.A y.n y.c], 28), (#[.slice A n cl], 53), (#[.string s], 9), (#[.string ⟨#[]⟩], 9), (#[.int .i64 0], 3), (#[.int .i64 0], 39), (#[.slice none 0 0], 85), (#[.int .i64 0], 3), (#[.int .i64 0], 3), (#[.int .i64 y.kind, .int .u64 (y.set 0), .int .u64 (y.set 1), .int .u64 (y.set 2), .int .u64 (y.set 3), .int .i64 y.lo, .int .i64 y.hi, .int .i64 y.num, .slice y.A y.n y.c], 28), (#[.string s], 9), (#[.int .i64 (c : Int)], 3), (#[.bool all], 4)] w;have hfold : w3 = [(#[.int .i64 y.kind, .int .u64 (y.set 0), .int .u64 (y.set 1), .int .u64 (y.set 2), .int .u64 (y.set 3), .int .i64 y.lo, .int .i64 y.hi, .int .i64 y.num, .slice y.A y.n y.c], 28), (#[.slice A n cl], 53), (#[.string s], 9), (#[.string ⟨#[]⟩], 9), (#[.int .i64 0], 3), (#[.int .i64 0], 39), (#[.slice none 0 0], 85), (#[.int .i64 0], 3), (#[.int .i64 0], 3), (#[.int .i64 y.kind, .int .u64 (y.set 0), .int .u64 (y.set 1), .int .u64 (y.set 2), .int .u64 (y.set 3), .int .i64 y.lo, .int .i64 y.hi, .int .i64 y.num, .slice y.A y.n y.c], 28), (#[.string s], 9), (#[.int .i64 (c : Int)], 3), (#[.bool all], 4)].foldl (fun w x => w.alloc (.cells x.1 x.2)) w := HW3.out;rw [<- hfold] at hbx hbw hsz;clear hfold HW3;have hsz3 : w3.heap.size = w.heap.size + 13 := hsz;obtain ⟨ms, hml, hmsl⟩ := matL_exists s.data.toList t 0 (-1) (s.data.toList.length + 1) (by omega);have hT := HT.out;have hsl : s.data.toList.length = s.size := (by simp)
 have hseq := chosen_seq 7 (by omega) (w0 := w) (w := w3) (p := pR w) (s := s) (t := t) (y := y) (xs := ms) (c := c) (all := all) HC.out.1 hbw hT.1 hT.2.1 hT.2.2.1 HC.out.2 (hbx 9 _ rfl) (hbx 10 _ rfl) (hbx 11 _ rfl) (hbx 12 _ rfl)
  (.inl ⟨by omega, by decide, by decide⟩) (.inr ⟨rfl, rfl⟩) (fun k hk => ⟨.inl ⟨by omega, by decide, by decide⟩, .inl ⟨by omega, by decide, by decide⟩, .inl ⟨by omega, by decide, by decide⟩, .inl ⟨by omega, by decide, by decide⟩, .inl ⟨by omega, by decide, by decide⟩, .inl ⟨by omega, by decide, by decide⟩⟩) hml (by have := HC.out.2; omega)
 have hord : OrdL s.data.toList 0 (choP c all ms) := choP_ord (matL_ord hml 0 (by omega) (Nat.zero_le _));have HO := lh hord;have HCL := lh (show (choP c all ms).length <= 1025 from Nat.le_trans (choP_len c all ms) (by have := HC.out.2; omega));have HML := lh hml;have HS3 := lh (aI hsz3 hsl);have HB3 := lh hbw;have HBX := lh hbx;clear hord hml hmsl hT
 refine range_boxed_own (n := 8) (by omega) (gf := 62) (lb := #[.pointer (some ⟨w.heap.size + 9, 0, none⟩), .pointer (some ⟨w.heap.size + 10, 0, none⟩), .pointer (some ⟨w.heap.size + 11, 0, none⟩), .pointer (some ⟨w.heap.size + 12, 0, none⟩)]) rfl (enters_of Tryz.func62 (by kernel_rfl) rfl) hseq (Below.refl _ _) (fun _ => rfl)
  (fun h k => Kr.trans h k) ?hKb ?hKa
  (fun pre V => RplI w s.data.toList (fillF s xs) (bsR w A n cl s) w3.heap.size pre V)
  (fun cd pre V => cd = .ret /\ RplX w s.data.toList (fillF s xs) w3.heap.size pre V)
  ?hI ?hIx ?h0 (fun x b => { tmps := #[.agg #[.int .i64 y.kind, .int .u64 (y.set 0), .int .u64 (y.set 1), .int .u64 (y.set 2), .int .u64 (y.set 3), .int .i64 y.lo, .int .i64 y.hi, .int .i64 y.num, .slice y.A y.n y.c], .slice A n cl, .string s, .int .i64 (c : Int), .bool all, .pointer (some ⟨w.heap.size, 0, none⟩), .pointer (some ⟨w.heap.size + 1, 0, none⟩), .pointer (some ⟨w.heap.size + 2, 0, none⟩), undef, undef, .pointer (some ⟨w.heap.size + 3, 0, none⟩), .pointer (some ⟨w.heap.size + 4, 0, none⟩), .pointer (some ⟨w.heap.size + 5, 0, none⟩), .pointer (some ⟨w.heap.size + 6, 0, none⟩), .pointer (some ⟨w.heap.size + 7, 0, none⟩), .pointer (some ⟨w.heap.size + 8, 0, none⟩), .pointer (some ⟨b, 0, none⟩), .bool false, .int .i64 (c : Int), .bool false, .bool false, .string s, .int .i64 (s.size : Int), .bool false, .agg #[.int .i64 y.kind, .int .u64 (y.set 0), .int .u64 (y.set 1), .int .u64 (y.set 2), .int .u64 (y.set 3), .int .i64 y.lo, .int .i64 y.hi, .int .i64 y.num, .slice y.A y.n y.c], .string s, .int .i64 (c : Int), .bool all, (.func (.func 62) #[] #[.pointer (some ⟨w.heap.size + 9, 0, none⟩), .pointer (some ⟨w.heap.size + 10, 0, none⟩), .pointer (some ⟨w.heap.size + 11, 0, none⟩), .pointer (some ⟨w.heap.size + 12, 0, none⟩)]), .agg (spC x), undef, undef, undef, undef, undef, undef, undef, undef, undef, undef, undef, undef, undef, undef, undef, undef, undef, undef, undef, undef, undef, undef, undef, undef, undef, undef, undef, undef, undef, undef], defers := [] }) (fun x => .cells (spC x) 34) (fun _ => rfl) ?assign ?body ?done ?stop
 case hKb =>
  intro V l o o' h1 h2 h3 h4 h5;refine ⟨Kq.put (w := w3) (by omega) V l o o' h1 h3 h4 h5, fun k o2 hk ho2 _ => (World.putObj_heap_other (by omega)).trans ho2⟩
 case hKa => exact fun V o hV => ⟨Kq.of_below (bW V o) (by omega), fun k o2 _ ho2 _ => ((bW V o).block k (lts ho2)).trans ho2⟩
 case hI =>
  rintro pre A2 V row h hg hr;exact h.own (by omega) (fun k x hx => by have := bsR_in k x hx; omega) hg hr
 case hIx =>
  rintro cd pre A2 V row ⟨h1, h2⟩ hg hr;exact ⟨h1, h2.own (by omega) hg hr⟩
 case h0 =>
  refine ⟨ResAt.start (hbx 6 _ rfl) ⟨by omega, fun h => ?_⟩, Nat.zero_le _, hbx 7 _ rfl, hbx 8 _ rfl, fun k x hx => ?_, hbw, nlr _⟩
  ·rcases h with h | ⟨_, _, h⟩
   ·exact pR_low (by omega) h
   ·exact h rfl
  ·match k, hx with
   | 0, hx => cases hx; exact hbx 1 _ rfl
   | 1, hx => cases hx; exact hbx 2 _ rfl
   | 2, hx => cases hx; exact hbx 3 _ rfl
   | 3, hx => cases hx; exact hbx 4 _ rfl
   | 4, hx => cases hx; exact hbx 5 _ rfl
   | _ + 5, hx => simp at hx
 case assign =>
  intro l2 x V K hK;gi_wp2_with (refine wpListIn_mat_store_r rfl (.tmp 16) (.tmp 29) rfl x rfl rfl ?_)
  exact hK
 case body =>
  intro l2 pre x b V hI hG hb hob;obtain ⟨rest, hrest⟩ := hG
  obtain ⟨i, z, hx0, hfi, hiz, hzs, _⟩ := soF_ord (T := s.data.toList) (f := fillF s xs) (l := pre) (r := x :: rest) (p := ([], 0)) (by
   have h := HO.out;rw [<- hrest, List.append_assoc] at h
   exact h)
  have hpush := soF_push s.data.toList (fillF s xs) pre ([], 0) x;have hIr := hI.r;have hIl := hI.l;have hIfb := hI.fb;obtain ⟨L, hL⟩ : ∃ L, L = (soF s.data.toList (fillF s xs) ([], 0) pre).1 := ⟨_, rfl⟩;obtain ⟨fr, hfr⟩ : ∃ fr, fr = (soF s.data.toList (fillF s xs) ([], 0) pre).2 := ⟨_, rfl⟩;obtain ⟨part, hpart⟩ : ∃ part, part = (s.data.toList.take i).drop fr := ⟨_, rfl⟩;rw [<- hL] at hIr hIl hpush;rw [<- hfr] at hIfb hfi hpush;rw [hx0] at hpush;simp only [Int.toNat_natCast] at hpush;rw [<- hpart] at hpush;have hS := HS3.out;have hVm := hI.m;have hex : (s.extract fr i).data.toList = part := (by rw [ext_part, hpart])
  have hez : (s.extract fr i).size = part.length := by
   show (s.extract fr i).data.size = part.length;rw [<- hex, Array.length_toList]
  have c2 : V.cell? ⟨w.heap.size + 2, 0, none⟩ = some (.string s) := obc (hI.bx 1 _ rfl) 0;have c7 : V.cell? ⟨w.heap.size + 7, 0, none⟩ = some (.int .i64 (fr : Int)) := obc hIfb 0;obtain ⟨m0, _⟩ := mat_box hob hx0;have g1 : (0 : Int) <= (fr : Int) := (by omega);have g2 : (fr : Int) <= (i : Int) := (by omega);have g3 : (i : Int) <= (s.size : Int) := (by omega);have n2 : fr <= i := hfi;have n3 : i <= s.size := (by omega);have HI := lh hI;have HP := lh hpush;have HOB := lh hob;have hcells : ∀ V2, Kq w.heap.size (pR2 w) V V2 -> _ := fun V2 hq => err_cells (w := w) (V := V2) (hq.2 _ _ _ _ (hI.bx 2 _ rfl) (.inr ⟨by omega, by omega, by omega⟩)) (hq.2 _ _ _ _ (hI.bx 3 _ rfl) (.inr ⟨by omega, by omega, by omega⟩)) (hq.2 _ _ _ _ (hI.bx 4 _ rfl) (.inr ⟨by omega, by omega, by omega⟩));have e1 : (soF s.data.toList (fillF s xs) ([], 0) (pre ++ [x])).1 = (L ++ part) ++ fillF s xs x := (by rw [hpush, List.append_assoc]);have e2 : (soF s.data.toList (fillF s xs) ([], 0) (pre ++ [x])).2 = z := (by rw [hpush]);obtain ⟨k0, hk0⟩ : ∃ k0, k0 = pre.length := ⟨_, rfl⟩
  have hpl : pre.length <= 1000000 := by
   have h1 := congrArg List.length hrest;have h2 := HCL.out;simp only [List.length_append, List.length_singleton] at h1;omega
  have hkb : pR2 w b 34 := .inl (.inl ⟨by omega, by decide, by decide⟩)
  have HAD := lh ((radd_is (B := w.heap.size) (p := pR2 w) (W := V) (s.extract fr i) hIr hIl (by omega) (fun k hk => (pR2_no (by omega)).1)).mono (fun e V2 h => show
    (e = .returned (.bool true) /\ KeepsOthers V V2 /\ Kq w.heap.size (pR2 w) V V2 /\ ResAt w.heap.size (pR2 w) (w.heap.size + 6) (L ++ part) V2 /\ (L ++ part).length <= 1024 /\ V2.cell? ⟨w.heap.size + 1, 0, none⟩ = some (.slice A n cl) /\ V2.cell? ⟨w.heap.size + 2, 0, none⟩ = some (.string s) /\ V2.heap[b]? = some (.cells (spC x) 34 (0, 0))) ∨
    (e = .returned (.bool false) /\ KeepsOthers V V2 /\ Kq w.heap.size (pR2 w) V V2 /\ 1024 < (soF s.data.toList (fillF s xs) ([], 0) (pre ++ [x])).1.length /\ _) from by
   obtain ⟨hq, ho, h3⟩ := h;rw [hex, hez] at h3;have hla : (L ++ part).length = L.length + part.length := List.length_append;rcases h3 with ⟨hz, he, hr⟩ | ⟨hz, he, _⟩
   ·exact .inl ⟨he, ho, hq, hr, by omega, obc (hq.2 _ _ _ _ (hI.bx 0 _ rfl) (.inr ⟨by omega, by omega, by omega⟩)) 0, obc (hq.2 _ _ _ _ (hI.bx 1 _ rfl) (.inr ⟨by omega, by omega, by omega⟩)) 0, hq.2 _ _ _ _ hob hkb⟩
   ·exact .inr ⟨he, ho, hq, by rw [e1, List.length_append, List.length_append]; omega, hcells V2 hq⟩))
  have HALL := lh (fun (V2 : World) (ho : KeepsOthers V V2) (hq : Kq w.heap.size (pR2 w) V V2) (hr : ResAt w.heap.size (pR2 w) (w.heap.size + 6) (L ++ part) V2) (hl : (L ++ part).length <= 1024) => show
    Calls Tryz.prog 39 #[.pointer (some ⟨w.heap.size + 6, 0, none⟩), .func (.func 64) #[] #[.pointer (some ⟨V2.heap.size, 0, none⟩), .pointer (some ⟨V2.heap.size + 1, 0, none⟩), .pointer (some ⟨V2.heap.size + 2, 0, none⟩)]] (((V2.alloc (.cells #[.slice A n cl] 53)).alloc (.cells #[.string s] 9)).alloc (.cells (spC x) 34)) (fun e V4 =>
     (e = .returned (.bool true) /\ KeepsOthers V V4 /\ Kq w.heap.size (pR2 w) V V4 /\ ResAt w.heap.size (pR2 w) (w.heap.size + 6) (soF s.data.toList (fillF s xs) ([], 0) (pre ++ [x])).1 V4 /\ (soF s.data.toList (fillF s xs) ([], 0) (pre ++ [x])).1.length <= 1024 /\ V4.cell? ⟨b, 1, none⟩ = some (.int .i64 (z : Int)) /\ V4.cell? ⟨w.heap.size + 7, 0, none⟩ = some (.int .i64 (fr : Int)) /\ V4.frozen? ⟨w.heap.size + 7, 0, none⟩ = false /\ (V4.setCell ⟨w.heap.size + 7, 0, none⟩ (.int .i64 (z : Int))).cell? ⟨w.heap.size + 8, 0, none⟩ = some (.int .i64 (k0 : Int)) /\ (V4.setCell ⟨w.heap.size + 7, 0, none⟩ (.int .i64 (z : Int))).frozen? ⟨w.heap.size + 8, 0, none⟩ = false) ∨
     (e = .returned (.bool false) /\ KeepsOthers V V4 /\ Kq w.heap.size (pR2 w) V V4 /\ 1024 < (soF s.data.toList (fillF s xs) ([], 0) (pre ++ [x])).1.length /\ _)) from by
   obtain ⟨hb3, hbw3, hz3⟩ := allocs_at [(#[.slice A n cl], 53), (#[.string s], 9), (spC x, 34)] V2;obtain ⟨V3, hV3⟩ : ∃ V3, V3 = ((V2.alloc (.cells #[.slice A n cl] 53)).alloc (.cells #[.string s] 9)).alloc (.cells (spC x) 34) := ⟨_, rfl⟩;have hV3' : [(#[.slice A n cl], 53), (#[.string s], 9), (spC x, 34)].foldl (fun w x => w.alloc (.cells x.1 x.2)) V2 = V3 := hV3.symm;rw [hV3'] at hb3 hbw3 hz3;have hr3 : ResAt w.heap.size (pR2 w) (w.heap.size + 6) (L ++ part) V3 := (by rw [hV3]; exact ((hr.alloc _).alloc _).alloc _);rw [<- hV3];have hV2 := ho.1;have hz3' : V3.heap.size = V2.heap.size + 3 := hz3;have hq3 : Kq w.heap.size (pR2 w) V V3 := hq.trans (Kq.of_below hbw3 (by omega));have ho3 : KeepsOthers V V3 := others_trans ho ⟨hbw3.size, fun k o hk _ => (hbw3.block k (lts hk)).trans hk⟩;have hb31 := hb3 0 _ rfl;rw [show n = xs.length from HN.out] at hb31;refine (addAll_is (w0 := w) (p := pR2 w) (xs := xs) (sp := x) (W := V3) (L := L ++ part) (B1 := V2.heap.size) (B2 := V2.heap.size + 1) (B3 := V2.heap.size + 2) (hI.q.trans hq3.1) HT.out.2.2.2.1 hb31 (hb3 1 _ rfl) (hb3 2 _ rfl) (.inl (.inl ⟨by omega, by decide, by decide⟩)) (.inl (.inl ⟨by omega, by decide, by decide⟩)) HT.out.2.2.2.2 hr3 hl (fun k hk => pR2_no (by omega))).mono fun e V4 h => ?_;obtain ⟨hq4, ho4, h4⟩ := h;have hqA := hq3.trans hq4;have h7 := hqA.2 _ _ _ _ hIfb (.inr ⟨by omega, by omega, by omega⟩);have h8 := hqA.2 _ _ _ _ hI.kb (.inr ⟨by omega, by omega, by omega⟩);have h8' := (put_at (.int .i64 (z : Int)) h7).keep h8 (.inl (by omega));rw [<- hk0] at h8';rcases h4 with ⟨he, hl4, hr4⟩ | ⟨he, hl4⟩
   ·exact .inl ⟨he, others_trans ho3 ho4, hqA, by rw [e1]; exact hr4, by rw [e1]; exact hl4, (mat_box (hqA.2 _ _ _ _ hob hkb) hx0).2, obc h7 0, frozen_of_row _ _ 0 _ _ h7, obc h8' 0, frozen_of_row _ _ 0 _ _ h8'⟩
   ·exact .inr ⟨he, others_trans ho3 ho4, hqA, by rw [e1]; exact hl4, hcells V4 hqA⟩)
  have hk1 : IntKind.i64.wrap ((k0 : Int) + 1) = ((k0 + 1 : Nat) : Int) := IntWalk.i64_in _ (by omega);have hk2 : wrap64 ((k0 : Int) + 1) = ((k0 + 1 : Nat) : Int) := IntWalk.wrap64_in _ (by omega);obtain ⟨k1, hk1e⟩ : ∃ k1, k1 = k0 + 1 := ⟨_, rfl⟩;rw [<- hk1e] at hk1 hk2;have HKK := lh (show k1 = pre.length + 1 by omega);have HZ := lh e2;have HVM := lh (show w.heap.size + 13 <= w3.heap.size by omega);clear hrest hfi hiz hzs hpush hIr hIl hIfb hL hfr hpart hS hVm hex hez hI hob hcells hkb e1 e2 hk1e hk0 hx0
  gi_upto_region 11 with (first
   | (refine wpListIn_load_row_gr rfl 34 (.tmp 16) rfl b rfl 34 (spC x) (0, 0) _ ub Tryz.underlying34 rfl (by kernel_rfl) ?_)
   | (refine ⟨trivial, ?_⟩; gi_at_call 38; (with_reducible refine (CallsIn.inRound l2 (callsIn_wide.2 HAD.out)).mono ?_); rintro e V2 h; rcases h with ⟨rfl, ho2, hq2, hr2, hl2, u1, u2, ub⟩ | ⟨rfl, ho2, hq2, hl2, q1, q2, q3, q4, q5, q6⟩)
   | (refine ⟨trivial, ?_⟩; gi_at_call 40; (with_reducible refine (CallsIn.inRound l2 (callsIn_wide.2 (filled_made _ s (spC x) _ A n cl rfl))).mono ?_); rintro e V3 ⟨rfl, rfl⟩)
   | (refine ⟨trivial, ?_⟩; gi_at_call 39; (with_reducible refine (CallsIn.inRound l2 (callsIn_wide.2 (HALL.out _ ho2 hq2 hr2 hl2))).mono ?_); rintro e V4 h; rcases h with ⟨rfl, ho4, hq4, hr4, hl4, u3, u4, u5, u6, u7⟩ | ⟨rfl, ho4, hq4, hl4, q1, q2, q3, q4, q5, q6⟩)
   | (refine ⟨trivial, ?_⟩; rename_i hK; refine hK _ _ ?_; clear hK))
  ·gi_wp2_with fail
   exact rpl_more HI.out ho4 hq4 hl4 hr4 HZ.out HKK.out
  ·obtain ⟨h1, h2, h3⟩ := rpl_fail (m2 := w3.heap.size + 2) HI.out ho4 hq4 hl4;exact ⟨h1, h2, rfl, h3⟩
  ·obtain ⟨h1, h2, h3⟩ := rpl_fail (m2 := w3.heap.size + 2) HI.out ho2 hq2 hl2;exact ⟨h1, h2, rfl, h3⟩
 case done =>
  intro ys V hS hI hK;have htot := soF_rep s.data.toList (fillF s xs) ys [] ([], 0);rw [List.append_nil] at htot;have hfle := (soF_ord (T := s.data.toList) (f := fillF s xs) (l := ys) (r := []) (p := ([], 0)) (by rw [List.append_nil, hS]; exact HO.out)).le;have hIr := hI.r;have hIl := hI.l;have hIfb := hI.fb;obtain ⟨L, hL⟩ : ∃ L, L = (soF s.data.toList (fillF s xs) ([], 0) ys).1 := ⟨_, rfl⟩;obtain ⟨fr, hfr⟩ : ∃ fr, fr = (soF s.data.toList (fillF s xs) ([], 0) ys).2 := ⟨_, rfl⟩;obtain ⟨part, hpart⟩ : ∃ part, part = s.data.toList.drop fr := ⟨_, rfl⟩;rw [<- hL] at hIr hIl htot;rw [<- hfr] at hIfb hfle htot
  have htot2 : repF s.data.toList (fillF s xs) 0 (choP c all ms) = L ++ part := by
   rw [<- hS, hpart];exact htot.symm
  have hS3 := HS3.out;have hVm := hI.m
  have hex : (s.extract fr s.size).data.toList = part := by
   rw [ext_part, hpart, List.take_of_length_le (by rw [hS3.2]; exact nlr _)]
  have hez : (s.extract fr s.size).size = part.length := by
   show (s.extract fr s.size).data.size = part.length;rw [<- hex, Array.length_toList]
  have c2 : V.cell? ⟨w.heap.size + 2, 0, none⟩ = some (.string s) := obc (hI.bx 1 _ rfl) 0;have c7 : V.cell? ⟨w.heap.size + 7, 0, none⟩ = some (.int .i64 (fr : Int)) := obc hIfb 0;have g1 : (0 : Int) <= (fr : Int) := (by omega);have g3 : (fr : Int) <= (s.size : Int) := (by omega);have n3 : fr <= s.size := (by omega);have HI := lh hI;have HK := lh hK;have HTO := lh htot2;have HYS := lh hS;have hcells : ∀ V2, Kq w.heap.size (pR2 w) V V2 -> _ := fun V2 hq => err_cells (w := w) (V := V2) (hq.2 _ _ _ _ (hI.bx 2 _ rfl) (.inr ⟨by omega, by omega, by omega⟩)) (hq.2 _ _ _ _ (hI.bx 3 _ rfl) (.inr ⟨by omega, by omega, by omega⟩)) (hq.2 _ _ _ _ (hI.bx 4 _ rfl) (.inr ⟨by omega, by omega, by omega⟩))
  have HAD := lh ((radd_is (B := w.heap.size) (p := pR2 w) (W := V) (s.extract fr s.size) hIr hIl (by omega) (fun k hk => (pR2_no (by omega)).1)).mono (fun e V2 h => show
    (e = .returned (.bool true) /\ KeepsOthers V V2 /\ Kq w.heap.size (pR2 w) V V2 /\ ResAt w.heap.size (pR2 w) (w.heap.size + 6) (L ++ part) V2 /\ (L ++ part).length <= 1024) ∨
    (e = .returned (.bool false) /\ KeepsOthers V V2 /\ Kq w.heap.size (pR2 w) V V2 /\ 1024 < (L ++ part).length /\ _) from by
   obtain ⟨hq, ho, h3⟩ := h;rw [hex, hez] at h3;have hla : (L ++ part).length = L.length + part.length := List.length_append;rcases h3 with ⟨hz, he, hr⟩ | ⟨hz, he, _⟩
   ·exact .inl ⟨he, ho, hq, hr, by omega⟩
   ·exact .inr ⟨he, ho, hq, by omega, hcells V2 hq⟩))
  have HCE := lh hcells;clear hS hI hK htot hfle hIr hIl hIfb hL hfr hpart htot2 hVm hex hez hcells hS3
  gi_upto_region 15 with (refine ⟨trivial, ?_⟩; gi_at_call 38; (with_reducible refine (callsIn_wide.2 HAD.out).mono ?_); rintro e V2 h; rcases h with ⟨rfl, ho2, hq2, hr2, hl2⟩ | ⟨rfl, ho2, hq2, hl2, q1, q2, q3, q4, q5, q6⟩)
  ·obtain ⟨v6, h6, ho6, _⟩ := hr2.ex;obtain ⟨A6, c6, rfl, _, hraw6, _⟩ := own_form ho6;have hcv : (convert 83 9 (.slice A6 (L ++ part).length c6)).run Tryz.prog V2.drew = .ok (.string (txt (L ++ part))) V2.drew := conv_u8 hraw6;have b3 := hq2.2 _ _ _ _ (HI.out.bx 2 _ rfl) (.inr ⟨by omega, by omega, by omega⟩);have b4 := hq2.2 _ _ _ _ (HI.out.bx 3 _ rfl) (.inr ⟨by omega, by omega, by omega⟩);have b5 := hq2.2 _ _ _ _ (HI.out.bx 4 _ rfl) (.inr ⟨by omega, by omega, by omega⟩);have p3 := put_at (.string (txt (L ++ part))) b3;have b4' := p3.keep b4 (.inl (by omega));have p4 := put_at (.int .i64 (ys.length : Int)) b4';have b5' := p4.keep (p3.keep b5 (.inl (by omega))) (.inl (by omega));have p5 := put_at (.int .i64 0) b5';have y3 : V2.cell? ⟨w.heap.size + 1 + 1 + 1, 0, none⟩ = some (.string ⟨#[]⟩) := obc b3 0;have f3 : V2.frozen? ⟨w.heap.size + 1 + 1 + 1, 0, none⟩ = false := frozen_of_row _ _ 0 _ _ b3;have y4 : (V2.setCell ⟨w.heap.size + 1 + 1 + 1, 0, none⟩ (.string (txt (L ++ part)))).cell? ⟨w.heap.size + 1 + 1 + 1 + 1, 0, none⟩ = some (.int .i64 0) := obc b4' 0;have f4 : (V2.setCell ⟨w.heap.size + 1 + 1 + 1, 0, none⟩ (.string (txt (L ++ part)))).frozen? ⟨w.heap.size + 1 + 1 + 1 + 1, 0, none⟩ = false := frozen_of_row _ _ 0 _ _ b4';have y5 : ((V2.setCell ⟨w.heap.size + 1 + 1 + 1, 0, none⟩ (.string (txt (L ++ part)))).setCell ⟨w.heap.size + 1 + 1 + 1 + 1, 0, none⟩ (.int .i64 (ys.length : Int))).cell? ⟨w.heap.size + 1 + 1 + 1 + 1 + 1, 0, none⟩ = some (.int .i64 0) := obc b5' 0;have f5 : ((V2.setCell ⟨w.heap.size + 1 + 1 + 1, 0, none⟩ (.string (txt (L ++ part)))).setCell ⟨w.heap.size + 1 + 1 + 1 + 1, 0, none⟩ (.int .i64 (ys.length : Int))).frozen? ⟨w.heap.size + 1 + 1 + 1 + 1 + 1, 0, none⟩ = false := frozen_of_row _ _ 0 _ _ b5';have HPP := lh (aI p3 (aI p4 p5));clear b3 b4 b5 p3 b4' p4 b5' p5;have x6 : V2.cell? ⟨w.heap.size + 1 + 1 + 1 + 1 + 1 + 1, 0, none⟩ = some (.slice A6 (L ++ part).length c6) := obc h6 0;obtain ⟨n6, hn6⟩ : ∃ n6, n6 = (L ++ part).length := ⟨_, rfl⟩;rw [<- hn6] at hcv x6;have HV6 := lh (aI h6 (aI ho6 hn6));clear h6 ho6 hraw6 hn6;have h8 := hq2.2 _ _ _ _ HI.out.kb (.inr ⟨by omega, by omega, by omega⟩);have x8 : V2.cell? ⟨w.heap.size + 1 + 1 + 1 + 1 + 1 + 1 + 1 + 1, 0, none⟩ = some (.int .i64 (ys.length : Int)) := obc h8 0;have H8 := lh h8;clear h8
   gi_region
   gi_wp2_with fail
   obtain ⟨p3, p4, p5⟩ := HPP.out;have hs3 : w3.heap.size = w.heap.size + 13 := HS3.out.1;have hD0 := ho2.2 _ _ HK.out rfl;rw [hs3] at hD0;have hD := (p5.other (w.heap.size + 13) (by omega)).trans ((p4.other (w.heap.size + 13) (by omega)).trans ((p3.other (w.heap.size + 13) (by omega)).trans hD0));obtain ⟨W5, eW5⟩ : ∃ W5, W5 = (((V2.setCell ⟨w.heap.size + 3, 0, none⟩ (.string (txt (L ++ part)))).setCell ⟨w.heap.size + 4, 0, none⟩ (.int .i64 (ys.length : Int))).setCell ⟨w.heap.size + 5, 0, none⟩ (.int .i64 0)) := ⟨_, rfl⟩;have hD5 : W5.drew.heap[w.heap.size + 13]? = some (.deferred (some [])) := (by rw [eW5]; exact hD);have c3 : W5.drew.heap[w.heap.size + 3]? = some (.cells #[.string (txt (L ++ part))] 9 (0, 0)) := (by rw [eW5]; exact p5.keep (p4.keep p3.same (.inl (by omega))) (.inl (by omega)));have c4 : W5.drew.heap[w.heap.size + 4]? = some (.cells #[.int .i64 (ys.length : Int)] 3 (0, 0)) := (by rw [eW5]; exact p5.keep p4.same (.inl (by omega)));have c5 : W5.drew.heap[w.heap.size + 5]? = some (.cells #[.int .i64 0] 39 (0, 0)) := (by rw [eW5]; exact p5.same)
   have hB5 : RowKit.Below w.heap.size w W5.drew := by
    rw [eW5];have hb := HI.out.q.trans (hq2.1.trans ((p3.below (B := w.heap.size) (by omega)).trans ((p4.below (by omega)).trans (p5.below (by omega)))));exact ⟨hb.os, hb.tape, hb.output, hb.size, hb.block⟩
   have keep : ∀ k o, k < w.heap.size + 13 -> W5.drew.heap[k]? = some o -> (W5.drew.putObj (w.heap.size + 13) (.deferred none)).heap[k]? = some o := fun k o hk ho => (World.putObj_heap_other (by omega)).trans ho;subst eW5;refine ⟨by simp, .inl ⟨_, _, rfl, run_takeDeferred hD5, _, res_three rfl _ _ (w.heap.size + 3) (w.heap.size + 4) (w.heap.size + 5) (txt (L ++ part)) (ys.length : Int) 0 rfl rfl rfl (obc (keep _ _ (by omega) c3) 0) (obc (keep _ _ (by omega) c4) 0) (obc (keep _ _ (by omega) c5) 0), ?_, .inr (.inr ⟨by have := HC.out; omega, HC.out.2, ms, HML.out, .inl ⟨?_, ?_⟩⟩)⟩⟩
   ·exact hB5.trans (Kq.put (w := w3) (p := fun _ _ => False) (n0 := w.heap.size) (by omega) _ (w.heap.size + 13) _ _ (by omega) hD5 rfl rfl).1
   ·show (repF s.data.toList (fillF s xs) 0 (choP c all ms)).length <= 1024;rw [HTO.out];exact hl2
   ·show _ = Ending.returned (.tuple #[.string (txt (repF s.data.toList (fillF s xs) 0 (choP c all ms))), .int .i64 ((choP c all ms).length : Int), .int .i64 0]);rw [HTO.out, <- HYS.out]
  ·have b3 := hq2.2 _ _ _ _ (HI.out.bx 2 _ rfl) (.inr ⟨by omega, by omega, by omega⟩);have b4 := hq2.2 _ _ _ _ (HI.out.bx 3 _ rfl) (.inr ⟨by omega, by omega, by omega⟩);have b5 := hq2.2 _ _ _ _ (HI.out.bx 4 _ rfl) (.inr ⟨by omega, by omega, by omega⟩);have p3 := put_at (.string ⟨#[]⟩) b3;have p4 := put_at (.int .i64 0) (p3.keep b4 (.inl (by omega)));have p5 := put_at (.int .i64 161) (p4.keep (p3.keep b5 (.inl (by omega))) (.inl (by omega)));have hs3 : w3.heap.size = w.heap.size + 13 := HS3.out.1;have hD0 := ho2.2 _ _ HK.out rfl;rw [hs3] at hD0;have hD := (p5.other (w.heap.size + 13) (by omega)).trans ((p4.other (w.heap.size + 13) (by omega)).trans ((p3.other (w.heap.size + 13) (by omega)).trans hD0));obtain ⟨W5, eW5⟩ : ∃ W5, W5 = (((V2.setCell ⟨w.heap.size + 3, 0, none⟩ (.string ⟨#[]⟩)).setCell ⟨w.heap.size + 4, 0, none⟩ (.int .i64 0)).setCell ⟨w.heap.size + 5, 0, none⟩ (.int .i64 161)) := ⟨_, rfl⟩;have hD5 : W5.heap[w.heap.size + 13]? = some (.deferred (some [])) := (by rw [eW5]; exact hD);have c3 : W5.heap[w.heap.size + 3]? = some (.cells #[.string ⟨#[]⟩] 9 (0, 0)) := (by rw [eW5]; exact p5.keep (p4.keep p3.same (.inl (by omega))) (.inl (by omega)));have c4 : W5.heap[w.heap.size + 4]? = some (.cells #[.int .i64 0] 3 (0, 0)) := (by rw [eW5]; exact p5.keep p4.same (.inl (by omega)));have c5 : W5.heap[w.heap.size + 5]? = some (.cells #[.int .i64 161] 39 (0, 0)) := (by rw [eW5]; exact p5.same)
   have hB5 : RowKit.Below w.heap.size w W5 := by
    rw [eW5];exact HI.out.q.trans (hq2.1.trans ((p3.below (B := w.heap.size) (by omega)).trans ((p4.below (by omega)).trans (p5.below (by omega)))))
   have keep : ∀ k o, k < w.heap.size + 13 -> W5.heap[k]? = some o -> (W5.putObj (w.heap.size + 13) (.deferred none)).heap[k]? = some o := fun k o hk ho => (World.putObj_heap_other (by omega)).trans ho;subst eW5;refine ⟨by simp, .inl ⟨_, _, rfl, run_takeDeferred hD5, _, res_three rfl _ _ (w.heap.size + 3) (w.heap.size + 4) (w.heap.size + 5) ⟨#[]⟩ 0 161 rfl rfl rfl (obc (keep _ _ (by omega) c3) 0) (obc (keep _ _ (by omega) c4) 0) (obc (keep _ _ (by omega) c5) 0), ?_, .inr (.inr ⟨by have := HC.out; omega, HC.out.2, ms, HML.out, .inr ⟨?_, rfl⟩⟩)⟩⟩
   ·exact hB5.trans (Kq.put (w := w3) (p := fun _ _ => False) (n0 := w.heap.size) (by omega) _ (w.heap.size + 13) _ _ (by omega) hD5 rfl rfl).1
   ·show 1024 < (repF s.data.toList (fillF s xs) 0 (choP c all ms)).length;rw [HTO.out];exact hl2
 case stop =>
  rintro cd pre V hS ⟨rfl, hI⟩ hK;have HIV := lh (aI hS (aI hI hK));clear hS hI hK;gi_wp2_with fail
  obtain ⟨hS, hI, hK⟩ := HIV.out;have hs3 := HS3.out.1;have keep : ∀ k o, k < w.heap.size + 13 -> V.heap[k]? = some o -> (V.putObj w3.heap.size (.deferred none)).heap[k]? = some o := fun k o hk ho => (World.putObj_heap_other (by omega)).trans ho;obtain ⟨t2, ht2⟩ := hS;have htot := soF_rep s.data.toList (fillF s xs) pre t2 ([], 0);rw [ht2, List.nil_append] at htot;refine ⟨by simp, .inl ⟨_, _, rfl, run_takeDeferred hK, _, res_three rfl _ _ (w.heap.size + 3) (w.heap.size + 4) (w.heap.size + 5) ⟨#[]⟩ 0 161 rfl rfl rfl (obc (keep _ _ (by omega) hI.b3) 0) (obc (keep _ _ (by omega) hI.b4) 0) (obc (keep _ _ (by omega) hI.b5) 0), ?_, .inr (.inr ⟨by have := HC.out; omega, HC.out.2, ms, HML.out, .inr ⟨?_, rfl⟩⟩)⟩⟩
  ·exact hI.q.trans (Kq.put (w := w3) (p := fun _ _ => False) (n0 := w.heap.size) (by omega) V w3.heap.size _ _ (nlr _) hK rfl rfl).1
  ·show 1024 < (repF s.data.toList (fillF s xs) 0 (choP c all ms)).length;rw [<- htot, List.length_append];have := hI.l;omega
end Go.Proofs.YtflkfleihlceeaaGreatDoor

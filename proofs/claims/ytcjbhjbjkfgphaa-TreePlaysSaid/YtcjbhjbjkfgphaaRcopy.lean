/-
  The program's copied and Text: a rope's bytes as one string. Condition: the rope is no longer than 65536 bytes.
-/
import Derived.RangeFuncFrom
import Derived.RangeFuncCalls
import Derived.Test.YtcjbhjbjkfgphaaRwalk
import Derived.Test.YtcjbhjbjkfgphaaRwrite
namespace Go.Proofs.Ytcjbhjbjkfgphaa
open Go.RowKit Go.Deep Go.Shelf

attribute [local go_sem] Oper.semAt_some

/-- The pieces that a rope's walk hands over. -/
def PcsIs (W0 : World) (p : Option Addr) (i j : Int) (xs : List Pc) : Prop :=
  (p = none ∧ j ≤ i ∧ xs = []) ∨ (∃ b T, p = some ⟨b, 0, none⟩ ∧ IsRT W0 b T ∧ 0 ≤ i ∧ i ≤ 65536 ∧ j ≤ (T.text.length : Int) ∧ T.text.length ≤ 65536 ∧ xs = T.pcs i j)

set_option maxHeartbeats 1000000 in
theorem walk_pcs (F : Fence) (hd : F.depth = none) (hf : F.fn 65) (hro : F.round = none) (l N : Nat) (W0 : World) (J Jx : List Pc → World → Prop)
    (hY : ∀ m pre x W, J pre W → pre.length < N → YieldAt F m Try.prog l (encPc x) W fun e W' =>
      (e = .returned (.bool true) ∧ J (pre ++ [x]) W' ∧ Below W0.heap.size W W') ∨ (e = .returned (.bool false) ∧ Jx (pre ++ [x]) W'))
    (n : Nat) (p : Option Addr) (i j : Int) (xs : List Pc) (W : World) (hp : PcsIs W0 p i j xs) (hb : Below W0.heap.size W0 W) (hJ : J [] W) (hN : xs.length ≤ N) :
      CallsIn F n Try.prog 65 #[.pointer p, .int .i64 i, .int .i64 j, .func (.yield l) #[] #[]] W fun e W' =>
        (e = .returned (.bool true) ∧ J xs W' ∧ Below W0.heap.size W W') ∨ (e = .returned (.bool false) ∧ ∃ q, q <+: xs ∧ Jx q W') := by
  rcases hp with ⟨rfl, hij, rfl⟩ | ⟨b, T, rfl, hT, hi, hi2, hj, hl, rfl⟩
  · have g1 : decide (j ≤ i) = true := by simp [hij]
    have HJ := Lib.hid hJ
    clear hY hb hJ hN hij
    refine callsIn_of_wp Try.func65 rfl hf ?_ hro
    simp only [Try.ntmps65, List.size_toArray, List.length_cons, List.length_nil, Nat.reduceAdd, Nat.reduceSub, Array.replicate_succ, Array.replicate_zero, List.push_toArray, List.append_toArray, List.nil_append, List.cons_append]
    gi_wp2
    go_ret
    exact .inl ⟨rfl, HJ.out, Below.refl _ _⟩
  · refine (walk_in F hd hf hro l N W0 J Jx hY T n b i j [] W hT hb hJ hi hi2 hj hl (by simpa using hN)).mono ?_
    rintro e W' (⟨h1, h2, h3⟩ | ⟨h1, q, h2, h3⟩)
    · exact .inl ⟨h1, by simpa using h2, h3⟩
    · exact .inr ⟨h1, q, h2, by simpa using h3⟩

set_option maxHeartbeats 1000000 in
theorem closure_in (F : Fence) (hd : F.depth = none) (n : Nat) (hg : F.fn 64) (hf : F.fn 65) (hro : F.round = none) (l B0 B1 B2 : Nat) (W0 : World) (p : Option Addr) (i j : Int) (xs : List Pc) (J Jx : List Pc → World → Prop)
    (hY : ∀ pre x W, J pre W → pre.length < xs.length → YieldAt F (n - 1) Try.prog l (encPc x) W fun e W' =>
      (e = .returned (.bool true) ∧ J (pre ++ [x]) W' ∧ Below W0.heap.size W W') ∨ (e = .returned (.bool false) ∧ Jx (pre ++ [x]) W'))
    (W : World) (h0 : W.cell? ⟨B0, 0, none⟩ = some (.pointer p)) (h1 : W.cell? ⟨B1, 0, none⟩ = some (.int .i64 i)) (h2 : W.cell? ⟨B2, 0, none⟩ = some (.int .i64 j)) (hp : PcsIs W0 p i j xs) (hb : Below W0.heap.size W0 W) (hJ : J [] W) :
    CallsIn F n Try.prog 64 #[.func (.yield l) #[] #[], .pointer (some ⟨B0, 0, none⟩), .pointer (some ⟨B1, 0, none⟩), .pointer (some ⟨B2, 0, none⟩)] W fun e W' => (∃ v, e = .returned v) ∧
      ((∃ ys, ys = xs ∧ J ys W') ∨ (∃ pre, pre <+: xs ∧ Jx pre W')) := by
  have hdd : ∀ k : Nat, (F.depth.isSome = true → 1 ≤ k) := fun k h => by rw [hd] at h; cases h
  have hw := Lib.hid (walk_pcs F hd hf hro l xs.length W0 J Jx (fun m pre x W hj hl => yieldAt_depth hd m (hY pre x W hj hl)) (n - 1) p i j xs W hp hb hJ (Nat.le_refl _))
  clear hY hp hb hJ
  refine callsIn_of_wp Try.func64 rfl hg ?_ hro
  simp only [Try.ntmps64, List.size_toArray, List.length_cons, List.length_nil, Nat.reduceAdd, Nat.reduceSub, Array.replicate_succ, Array.replicate_zero, List.push_toArray, List.append_toArray, List.nil_append, List.cons_append]
  gi_wp2_with ((try refine ⟨hdd _, ?_⟩); gi_at_call 65; (with_reducible refine hw.out.mono ?_); clear hw; rintro e W1 (⟨rfl, hJ1, _⟩ | ⟨rfl, q, hq, hx⟩))
  · go_end0
    exact ⟨⟨_, rfl⟩, .inl ⟨_, rfl, hJ1⟩⟩
  · go_end0
    exact ⟨⟨_, rfl⟩, .inr ⟨q, hq, hx⟩⟩

set_option maxHeartbeats 1000000 in
theorem parts_in (F : Fence) (n : Nat) (hg : F.fn 48) (hro : F.round = none) (p : Option Addr) (i j : Int) (w : World) :
    CallsIn F n Try.prog 48 #[.pointer p, .int .i64 i, .int .i64 j] w fun e w' =>
      e = .returned (.func (.func 64) #[] #[.pointer (some ⟨w.heap.size, 0, none⟩), .pointer (some ⟨w.heap.size + 1, 0, none⟩), .pointer (some ⟨w.heap.size + 1 + 1, 0, none⟩)]) ∧
      w' = ((w.alloc (.cells #[.pointer p] 32)).alloc (.cells #[.int .i64 i] 3)).alloc (.cells #[.int .i64 j] 3) := by
  refine callsIn_of_wp Try.func48 rfl hg ?_ hro
  simp only [Try.ntmps48, List.size_toArray, List.length_cons, List.length_nil, Nat.reduceAdd, Nat.reduceSub, Array.replicate_succ, Array.replicate_zero, List.push_toArray, List.append_toArray, List.nil_append, List.cons_append]
  gi_wp2
  go_ret
  exact ⟨rfl, rfl⟩

theorem seq_stops (F : Fence) (hd : F.depth = none) (n : Nat) (hg : F.fn 64) (hf : F.fn 65) (hro : F.round = none) (B0 B1 B2 : Nat) (W0 : World) (p : Option Addr) (i j : Int) (xs : List Pc) (w : World) (hB0 : B0 < w.heap.size) (hB1 : B1 < w.heap.size) (hB2 : B2 < w.heap.size)
    (h0 : w.cell? ⟨B0, 0, none⟩ = some (.pointer p)) (h1 : w.cell? ⟨B1, 0, none⟩ = some (.int .i64 i)) (h2 : w.cell? ⟨B2, 0, none⟩ = some (.int .i64 j)) (hp : PcsIs W0 p i j xs) (hb : Below W0.heap.size W0 w) :
    SeqStopsK F n Try.prog 64 #[.pointer (some ⟨B0, 0, none⟩), .pointer (some ⟨B1, 0, none⟩), .pointer (some ⟨B2, 0, none⟩)] encPc (Below W0.heap.size) (fun ys => ys = xs) (fun pre => pre <+: xs) xs.length w := fun l J Jx W hW _ _ hY hJ =>
  closure_in F hd n hg hf hro l B0 B1 B2 W0 p i j xs J Jx hY W ((hW.cell (p := ⟨B0, 0, none⟩) hB0).trans h0) ((hW.cell (p := ⟨B1, 0, none⟩) hB1).trans h1) ((hW.cell (p := ⟨B2, 0, none⟩) hB2).trans h2) hp (hb.trans (hW.mono hb.size)) hJ

theorem wide_fn (k : Nat) : Fence.wide.fn k := trivial
theorem wide_round : Fence.wide.round = none := rfl
theorem builder_own {T e : TypeId} {B b : Nat} {bs : List Value} {W W' : World} {row : Option Nat} (h : Lib.IsBuilderF T e B b bs W) (hg : W.grownBy W' row) (hr : ∀ r, row = some r → ∃ o : Obj, W.heap[r]? = some o ∧ o.isCells = false) : Lib.IsBuilderF T e B b bs W' := by
  have key : ∀ p, Lib.BuilderAtF T e B b p bs W → Lib.BuilderAtF T e B b p bs W' := by
    rintro p ⟨hB, v, hb, ho, hne⟩
    have hbr : ∀ k cs t fr, W.heap[k]? = some (.cells cs t fr) → some k ≠ row := by
      intro k cs t fr hk e
      obtain ⟨o, ho, hc⟩ := hr k e.symm
      rw [hk] at ho
      cases ho
      cases hc
    refine ⟨hB, v, (hg.block b (lt_of_some hb) (hbr _ _ _ _ hb)).trans hb, ho.kept hg ?_, hne⟩
    rcases ho.2 with ⟨rfl, _⟩ | ⟨g, cap, cur, fz, rfl, _, hgg, _⟩
    · exact .inl rfl
    · exact .inr (hbr _ _ _ _ hgg)
  rcases h with h | h
  · exact .inl (key _ h)
  · exact .inr (key _ h)
theorem strCells_txt (l : List UInt8) : Lib.strCells (txt l) = Lib.byteCells l := rfl
theorem flat_le (xs : List Pc) : (flat xs).length ≤ xs.length * 65536 := by
  induction xs with
  | nil => simp [flat]
  | cons x xs ih =>
    have hx := x.2
    simp only [flat, List.map_cons, List.flatten_cons, List.length_append, List.length_cons] at ih ⊢
    omega
theorem keeps_of_others {e : TypeId} {b : Nat} {W W' : World} {bs : List Value} {T : TypeId} {B : Nat} (hs : W.heap.size ≤ W'.heap.size) (h : Lib.OthersKept e (some b) W W') (hb : Lib.IsBuilderF T e B b bs W) : KeepsOthers W W' := by
  refine ⟨hs, fun k o hk ho => h k o hk ?_ ?_⟩
  · intro ek
    injection ek with ek
    subst ek
    have : ∃ cs t fr, W.heap[k]? = some (.cells cs t fr) := by
      rcases hb with ⟨_, v, hb, _⟩ | ⟨_, v, hb, _⟩
      · exact ⟨_, _, _, hb⟩
      · exact ⟨_, _, _, hb⟩
    obtain ⟨cs, t, fr, hc⟩ := this
    rw [hk] at hc
    cases hc
    cases ho
  · rintro c fz rfl
    cases ho

set_option maxRecDepth 100000 in
set_option maxHeartbeats 4000000 in
theorem copied_pcs (w : World) (p : Option Addr) (i j : Int) (n : Nat) (xs : List Pc) (hn : (n : Int) = j - i) (hn2 : n ≤ 65536) (hp : PcsIs w p i j xs) (hN : xs.length ≤ 65536) :
    Calls Try.prog 35 #[.pointer p, .int .i64 i, .int .i64 j] w fun e w' => e = .returned (.string (txt (flat xs))) ∧ Below w.heap.size w w' := by
  refine (callsIn_wide (n := 4)).1 ?_
  have q1 : IntKind.i64.wrap (j - i) = (n : Int) := by rw [hn]; exact IntWalk.i64_in _ (by omega)
  have u1 : wrap64 (j - i) = (n : Int) := by rw [hn]; exact IntWalk.wrap64_in _ (by omega)
  have e1 : j - i = (n : Int) := hn.symm
  have u2 : wrap64 (n : Int) = (n : Int) := IntWalk.wrap64_in _ (by omega)
  have hb1 : Below w.heap.size w (w.alloc (.cells #[.pointer none, .slice none 0 0] 100)) := (Below.refl _ w).alloc (Nat.le_refl _) _
  have HG := Lib.hid (Try.Builder_Grow_fresh w.heap.size w.heap.size n (w.alloc (.cells #[.pointer none, .slice none 0 0] 100)) (Nat.le_refl _) (heap_alloc_new w _) (by simp) (by omega))
  have HP := Lib.hid hp
  have HN := Lib.hid hN
  have HB1 := Lib.hid hb1
  clear hp hN hn hn2 hb1
  refine callsIn_of_wp_marks Try.func35 rfl trivial ?_ rfl
  simp only [Try.ntmps35, List.size_toArray, List.length_cons, List.length_nil, Nat.reduceAdd, Nat.reduceSub, Array.replicate_succ, Array.replicate_zero, List.push_toArray, List.append_toArray, List.nil_append, List.cons_append]
  gi_wp2_with fail
  refine ⟨trivial, ?_⟩
  gi_at_call 47
  (with_reducible refine (callsIn_wide.2 HG.out).mono ?_)
  rintro e w2 ⟨rfl, hbd, hb2⟩
  have HBD := Lib.hid hbd
  have HB2 := Lib.hid (HB1.out.trans hb2)
  clear hbd hb2
  gi_wp2_with fail
  refine ⟨trivial, ?_⟩
  gi_at_call 48
  (with_reducible refine (parts_in Fence.wide _ (wide_fn _) wide_round p i j _).mono ?_)
  rintro e w3 ⟨rfl, hw3⟩
  have hs3 : w3.heap.size = w2.heap.size + 1 + 1 + 1 := by rw [hw3]; simp
  have hb23 : Below w2.heap.size w2 w3 := by rw [hw3]; exact (((Below.refl _ w2).alloc (Nat.le_refl _) _).alloc (by simp) _).alloc (by simp; omega) _
  have c2 : w3.cell? ⟨w2.heap.size + 1 + 1, 0, none⟩ = some (.int .i64 j) := by
    rw [hw3]
    have := heap_alloc_new ((w2.alloc (.cells #[.pointer p] 32)).alloc (.cells #[.int .i64 i] 3)) (.cells #[.int .i64 j] 3)
    simp only [World.size_alloc] at this
    exact cell_of_obj this 0
  have c1 : w3.cell? ⟨w2.heap.size + 1, 0, none⟩ = some (.int .i64 i) := by
    have h1 := heap_alloc_new (w2.alloc (.cells #[.pointer p] 32)) (.cells #[.int .i64 i] 3)
    simp only [World.size_alloc] at h1
    rw [hw3]
    exact cell_of_obj ((heap_alloc_old _ _ _ (by simp)).trans h1) 0
  have c0 : w3.cell? ⟨w2.heap.size, 0, none⟩ = some (.pointer p) := by
    have h1 := heap_alloc_new w2 (.cells #[.pointer p] 32)
    rw [hw3]
    exact cell_of_obj ((heap_alloc_old _ _ _ (by simp; omega)).trans ((heap_alloc_old _ _ _ (by simp)).trans h1)) 0
  have hbu : Lib.IsBuilderF 100 5 w.heap.size w.heap.size (Lib.byteCells (flat [])) w3 := by
    rw [hw3]
    exact .inr ((((Lib.BuilderAtF.of HBD.out).alloc _).alloc _).alloc _)
  have hb3 : Below w.heap.size w w3 := HB2.out.trans (hb23.mono HB2.out.size)
  have hsz : w.heap.size ≤ w2.heap.size := HB2.out.size
  have HB3 := Lib.hid hb3
  have HBU := Lib.hid hbu
  have HC := Lib.hid (And.intro c0 (And.intro c1 c2))
  have HS := Lib.hid (And.intro hs3 hsz)
  clear hw3 hs3 hb23 c0 c1 c2 hbu hb3 hsz q1 u1 e1 u2
  gi_wp2_with fail
  refine wpIn_rangeFunc_ownF rfl (by omega) (gf := 64) (lb := #[.pointer (some ⟨w2.heap.size, 0, none⟩), .pointer (some ⟨w2.heap.size + 1, 0, none⟩), .pointer (some ⟨w2.heap.size + 1 + 1, 0, none⟩)]) rfl trivial (enters_of Try.func64 (by kernel_rfl) rfl)
    (seq_stops Fence.wide rfl _ trivial trivial rfl w2.heap.size (w2.heap.size + 1) (w2.heap.size + 1 + 1) w p i j xs w3 (by have := HS.out; omega) (by have := HS.out; omega) (by have := HS.out; omega) HC.out.1 HC.out.2.1 HC.out.2.2 HP.out HB3.out)
    belowK_t (belowK_b (by have := HS.out; omega)) (Below.refl _ _) (fun _ => rfl)
    (fun pre W => Lib.IsBuilderF 100 5 w.heap.size w.heap.size (Lib.byteCells (flat pre)) W ∧ Below w.heap.size w W)
    (fun _ _ _ => False)
    (OwnFrom.and (Own.from (I := fun (pre : List Pc) W => Lib.IsBuilderF 100 5 w.heap.size w.heap.size (Lib.byteCells (flat pre)) W) (fun s A B row hs hg hr => builder_own hs hg hr) _) (ownFrom_below (Nat.le_refl _) (by have := HS.out; omega)))
    (fun _ _ _ _ _ hs _ _ => hs)
    ⟨HBU.out, HB3.out⟩
    (fun x => { tmps := #[.pointer p, .int .i64 i, .int .i64 j, undef, undef, undef, .string ⟨#[]⟩, .pointer (some ⟨w.heap.size, 0, none⟩), .string (txt x.1), .int .i64 j, .int .i64 i, .int .i64 (n : Int), .tuple #[], .pointer p, .int .i64 i, .int .i64 j, .func (.func 64) #[] #[.pointer (some ⟨w2.heap.size, 0, none⟩), .pointer (some ⟨w2.heap.size + 1, 0, none⟩), .pointer (some ⟨w2.heap.size + 1 + 1, 0, none⟩)], .string (txt x.1), undef, undef, undef], defers := [] }) ?assign ?body ?done ?stop
  case assign =>
    intro l x W K hK
    rw [show encPc x = #[Value.string (txt x.1)] from rfl]
    gi_wp2
    exact hK
  case body =>
    rintro l pre x W ⟨hbu, hB⟩ hlen
    have hfl := flat_le pre
    have hx := x.2
    have hNN := HN.out
    have hw := Lib.hid (write_string w.heap.size w.heap.size (Lib.byteCells (flat pre)) (txt x.1) W hbu (by rw [Lib.byteCells_length, size_txt]; omega) hB.size)
    have HBU := Lib.hid hbu
    have HBW := Lib.hid hB
    obtain ⟨S, eS⟩ : ∃ S, S = txt x.1 := ⟨_, rfl⟩
    have ES := Lib.hid eS
    rw [← eS] at hw ⊢
    clear hbu hB hlen hfl hx hNN eS
    gi_wp2_with (refine ⟨trivial, ?_⟩; gi_at_call 49; (with_reducible refine (CallsIn.inRound l (callsIn_wide.2 hw.out)).mono ?_); rintro e w' ⟨rfl, hbu2, hb2, ho2⟩)
    rw [ES.out, strCells_txt] at hbu2
    refine ⟨keeps_of_others hb2.size ho2 HBU.out, hb2, ?_, HBW.out.trans hb2⟩
    rw [flat_append]
    have e : Lib.byteCells (flat pre ++ flat [x]) = Lib.byteCells (flat pre) ++ Lib.byteCells x.1 := by simp [Lib.byteCells, flat]
    rw [e]
    exact .inr hbu2
  case done =>
    rintro D ys W hD rfl ⟨hbu, hB⟩ hK
    have hS := Lib.hid (Try.Builder_String_any_k w.heap.size w.heap.size (flat ys) W hbu hB.size)
    have HBU := Lib.hid hbu
    have HBW := Lib.hid hB
    have HK := Lib.hid hK
    have HD := Lib.hid hD
    clear hbu hB hK hD
    gi_wp2_with (refine ⟨trivial, ?_⟩; gi_at_call 50; (with_reducible refine (callsIn_wide.2 hS.out).mono ?_); rintro e w' ⟨rfl, _, hb2, ho2⟩)
    have hK' := (keeps_of_others hb2.size ho2 HBU.out).same D _ HK.out rfl
    refine ⟨by simp, .inl ⟨_, _, rfl, run_takeDeferred hK', ?_⟩⟩
    exact ⟨_, results_tmp rfl _ _ _, rfl, (HBW.out.trans hb2).trans (belowK_b (w := w) (Nat.le_refl _) _ D _ _ (by have := HD.out; have := HS.out; omega) hK' rfl rfl)⟩
  case stop =>
    rintro D c pre W _ _ h _
    exact h.elim
end Go.Proofs.Ytcjbhjbjkfgphaa

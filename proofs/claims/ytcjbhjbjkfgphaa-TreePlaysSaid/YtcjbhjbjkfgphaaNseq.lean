/-
  The program's iterator over a tree's files, as a range over a function takes it: from, its closure, and the walk over all nodes. Conditions: those named at each law.
-/
import Derived.Test.YtcjbhjbjkfgphaaNwalk
import Derived.Laws.EntriesVeiled
namespace Go.Proofs.Ytcjbhjbjkfgphaa
open Go.RowKit Go.Deep Go.Shelf

attribute [local go_sem] Oper.semAt_some

/-- Whether a file's path is not less than a text. -/
def geX (s : ByteArray) (x : FX) : Bool := !pless x.f.path s
theorem filter_lt {l : List FX} {s : ByteArray} (h : AllLt l s) : l.filter (geX s) = [] := by
  rw [List.filter_eq_nil_iff]
  intro x hx
  unfold geX
  rw [h x hx]
  simp
theorem filter_tail {s : ByteArray} : ∀ {fs : List FX} {kk : List (List FX)}, (∀ x ∈ fs, geX s x = true) → (tailF fs kk).filter (geX s) = tailF fs (kk.map (List.filter (geX s)))
  | [], _, _ => rfl
  | _ :: _, [], _ => rfl
  | f :: fs, k :: kk, h => by
    show (f :: (k ++ tailF fs kk)).filter (geX s) = f :: (k.filter (geX s) ++ tailF fs (kk.map (List.filter (geX s))))
    rw [List.filter_cons_of_pos (h f List.mem_cons_self), List.filter_append, filter_tail (fun x hx => h x (List.mem_cons_of_mem _ hx))]
theorem outF_tail {fs : List FX} {kk : List (List FX)} {i : Nat} (hl : kk.length = fs.length + 1) : ∀ k, i + k ≤ fs.length → outF fs (fun m => kk.getD m []) i k = kk.getD i [] ++ tailF ((fs.drop i).take k) ((kk.drop (i + 1)).take k)
  | 0, _ => by simp [outF, tailF]
  | k + 1, h => by
    obtain ⟨f, hf⟩ : ∃ f, fs[i + k]? = some f := ⟨fs[i + k]'(by omega), List.getElem?_eq_getElem _⟩
    obtain ⟨o, ho⟩ : ∃ o, kk[i + k + 1]? = some o := ⟨kk[i + k + 1]'(by omega), List.getElem?_eq_getElem _⟩
    have hf2 : (fs.drop i)[k]? = some f := by rw [List.getElem?_drop]; exact hf
    have ho2 : (kk.drop (i + 1))[k]? = some o := by rw [List.getElem?_drop, show i + 1 + k = i + k + 1 by omega]; exact ho
    rw [outF_succ hf, outF_tail hl k (by omega), List.take_add_one, List.take_add_one, hf2, ho2, Option.toList_some, Option.toList_some,
      tailF_append (by rw [List.length_take, List.length_take, List.length_drop, List.length_drop]; omega), List.append_assoc]
    congr 2
    show f :: kk.getD (i + k + 1) [] = tailF [f] [o]
    rw [List.getD_eq_getElem?_getD, ho]
    simp [tailF]
theorem place_ge {fs : List FX} {s : ByteArray} {i : Nat} {t : Bool} (h : PlaceIs fs s i t) : ∀ x ∈ fs.drop i, geX s x = true := by
  intro x hx
  unfold geX
  cases t with
  | false => rw [pless_asymm (h.no rfl x hx)]; rfl
  | true =>
    obtain ⟨y, hy, hp⟩ := h.is rfl
    have hi := (List.getElem?_eq_some_iff.1 hy).1
    rw [List.drop_eq_getElem_cons hi] at hx
    rcases List.mem_cons.1 hx with hx | hx
    · rw [List.getElem?_eq_getElem hi] at hy
      injection hy with hy
      rw [hx, hy, hp, pless_irrefl]
      rfl
    · rw [pless_asymm (h.gt rfl x hx)]
      rfl
theorem out_filter {fs : List FX} {kk : List (List FX)} {s : ByteArray} {i : Nat} {t : Bool} (hl : kk.length = fs.length + 1) (hr : RisingX (weave fs kk)) (h : PlaceIs fs s i t) :
    (weave fs kk).filter (geX s) = outF fs (fun m => (kk.map (List.filter (geX s))).getD m []) i (fs.length - i) := by
  have hi := h.le
  have hik : i < kk.length := by omega
  have ek : kk = kk.take i ++ kk[i] :: kk.drop (i + 1) := by
    conv => lhs; rw [← List.take_append_drop i kk]
    rw [List.drop_eq_getElem_cons hik]
  have ef : fs = fs.take i ++ fs.drop i := (List.take_append_drop _ _).symm
  have hlt : (fs.take i).length = (kk.take i).length := by rw [List.length_take, List.length_take]; omega
  have ew : weave fs kk = headF (fs.take i) (kk.take i) ++ (kk[i] ++ tailF (fs.drop i) (kk.drop (i + 1))) := by
    conv => lhs; rw [ef, ek]
    exact weave_mid hlt
  rw [ew] at hr ⊢
  rw [List.filter_append, List.filter_append, filter_lt (head_less hr.split.1 h.lt hlt), List.nil_append, filter_tail (place_ge h),
    outF_tail (by rw [List.length_map]; exact hl) _ (by omega)]
  congr 1
  · rw [List.getD_eq_getElem?_getD, List.getElem?_map, List.getElem?_eq_getElem hik]
    rfl
  · rw [List.take_of_length_le (by rw [List.length_drop]; omega), List.take_of_length_le (by rw [List.length_drop, List.length_map]; omega), List.map_drop]
theorem tailF_none : ∀ fs : List FX, tailF fs (List.replicate fs.length []) = fs
  | [] => rfl
  | f :: fs => by
    show f :: ([] ++ tailF fs (List.replicate fs.length [])) = f :: fs
    rw [List.nil_append, tailF_none fs]
theorem weave_none (fs : List FX) : weave fs (List.replicate (fs.length + 1) []) = fs := by
  show [] ++ tailF fs (List.replicate fs.length []) = fs
  rw [List.nil_append, tailF_none]

theorem leaf_out {fs : List FX} {s : ByteArray} {i : Nat} {t : Bool} (hr : RisingX fs) (hp : PlaceIs fs s i t) : fs.filter (geX s) = outF fs (fun _ => []) i (fs.length - i) := by
  have h := out_filter (fs := fs) (kk := List.replicate (fs.length + 1) []) (s := s) (by simp) (by rw [weave_none]; exact hr) hp
  rw [weave_none] at h
  rw [h]
  congr 1
  funext m
  simp only [List.map_replicate, List.filter_nil, List.getD_eq_getElem?_getD, List.getElem?_replicate]
  split <;> rfl
/-- The walk of every node. -/
theorem walk_all (PX : FX → Prop) (Wb w0 : World) (p : Nat → TypeId → Prop) (N l B1 B2 B3 : Nat) (J Jx : List FX → World → Prop)
    (hJB : ∀ q W W', J q W → Below W.heap.size W W' → J q W')
    (hY : ∀ m pre x W, PX x → J pre W → pre.length < N → YieldAt Fence.wide m Try.prog l (encF x) W fun e W' =>
      (e = .returned (.bool true) ∧ J (pre ++ [x]) W' ∧ Kp w0.heap.size p W W') ∨ (e = .returned (.bool false) ∧ Jx (pre ++ [x]) W'))
    (s : ByteArray) (hX : Boxes Wb s l B1 B2 B3) (hP : BoxesP p B1 B2 B3) (hw0 : Below w0.heap.size w0 Wb) :
    ∀ (h : Nat) (t : NT h) (b : Nat), IsN w0 h t b → NT.ok 1 2 h t → RisingX (NT.flat h t) → (∀ x ∈ NT.flat h t, PX x) → WalkC Wb w0.heap.size p N B1 B2 B3 J Jx (some ⟨b, 0, none⟩) ((NT.flat h t).filter (geX s))
  | 0, fs, b, hn, ho, hr, hpx => by
    have hr' : RisingX fs := hr
    have hl : fs.length ≤ 2 := ho.2
    refine walk_step PX Wb w0 p N l B1 B2 B3 J Jx hJB hY s hX hP hw0 b fs [] hn hr' (by omega) hpx (fun _ => []) _ (fun i t hp => leaf_out hr' hp) (fun _ => none) (fun m _ W hW => kid_none (NodeAt.below (show NodeAt w0 b fs [] from hn) hW) (m : Int)) (fun m _ => walk_none _ _ _ _ _ _ _ _ _)
  | h + 1, (fs, ks), b, ⟨ad, hn, hal, hk⟩, ho, hr, hpx => by
    obtain ⟨o1, o2, o3, o4⟩ := ho
    have hfr : RisingX fs := NT.rising (h := h + 1) (t := (fs, ks)) ⟨o1, o2, o3, o4⟩ hr
    have hll : (ks.map (NT.flat h)).length = fs.length + 1 := by rw [List.length_map]; exact o3
    have hr' : RisingX (weave fs (ks.map (NT.flat h))) := hr
    refine walk_step PX Wb w0 p N l B1 B2 B3 J Jx hJB hY s hX hP hw0 b fs ad hn hfr (by omega) (fun x hx => by
      obtain ⟨j, hj⟩ := List.mem_iff_getElem?.1 hx
      exact hpx x (file_in (h := h + 1) (t := (fs, ks)) (i := j) ⟨o1, o2, o3, o4⟩ hj)) (fun m => ((ks.map (NT.flat h)).map (List.filter (geX s))).getD m []) _ (fun i t hp => out_filter hll hr' hp) (fun m => (ad[m]?).map (fun a => ⟨a, 0, none⟩)) (fun m hm W hW => ?_) (fun m hm => ?_)
    · obtain ⟨a, ha⟩ : ∃ a, ad[m]? = some a := ⟨ad[m]'(by rw [hal, o3]; omega), List.getElem?_eq_getElem _⟩
      rw [ha]
      exact kid_some (hn.below hW) m a ha (by rw [hal, o3]; omega)
    · obtain ⟨a, ha⟩ : ∃ a, ad[m]? = some a := ⟨ad[m]'(by rw [hal, o3]; omega), List.getElem?_eq_getElem _⟩
      obtain ⟨k, hkm⟩ : ∃ k, ks[m]? = some k := ⟨ks[m]'(by rw [o3]; omega), List.getElem?_eq_getElem _⟩
      have hf0 : (ks.map (NT.flat h))[m]? = some (NT.flat h k) := by rw [List.getElem?_map, hkm]; rfl
      have e : ((ks.map (NT.flat h)).map (List.filter (geX s))).getD m [] = (NT.flat h k).filter (geX s) := by
        rw [List.getD_eq_getElem?_getD, List.getElem?_map, hf0]
        rfl
      show WalkC _ _ _ _ _ _ _ _ _ ((ad[m]?).map _) (((ks.map (NT.flat h)).map (List.filter (geX s))).getD m [])
      rw [ha, e]
      exact walk_all PX Wb w0 p N l B1 B2 B3 J Jx hJB hY s hX hP hw0 h k a (hk m k a hkm ha) (o4 k (List.mem_of_getElem? hkm)) (rising_kid hll hf0 hr') (fun x hx => hpx x (kid_in hll hf0 hx))

/-! ### from, and its closure -/
theorem abides_below {β : Type} {B : Nat} {J : β → World → Prop} (h : AbidesFrom B J) {q : β} {W W' : World} (hj : J q W) (hb : Below W.heap.size W W') : J q W' :=
  h q W W' none hj ⟨hb.os, hb.tape, hb.output, hb.size, fun k hk _ => hb.block k hk⟩ (fun r e => by cases e)
/-- The files that a tree's root has, from a text on. -/
def SeqX (xs : List FX) (s : ByteArray) : List FX := xs.filter (geX s)
set_option maxRecDepth 100000 in
set_option maxHeartbeats 4000000 in
theorem closure_tree (PX : FX → Prop) (n : Nat) (l B1 BT : Nat) (w0 : World) (p : Nat → TypeId → Prop) (s : ByteArray) (tp r : Option Addr) (sz : Nat) (xs : List FX) (J Jx : List FX → World → Prop) (W : World)
    (hJ : AbidesFrom W.heap.size J) (hY : ∀ pre x W, PX x → J pre W → pre.length < (SeqX xs s).length → YieldAt Fence.wide (n - 1) Try.prog l (encF x) W fun e W' =>
      (e = .returned (.bool true) ∧ J (pre ++ [x]) W' ∧ Kp w0.heap.size p W W') ∨ (e = .returned (.bool false) ∧ Jx (pre ++ [x]) W'))
    (hb : Below w0.heap.size w0 W) (h1 : W.heap[B1]? = some (.cells #[.string s] 9)) (hT : W.heap[BT]? = some (.cells #[.pointer tp] 29))
    (hp : BoxesP p B1 (W.heap.size + 1) W.heap.size) (htop : TopIs w0 tp r sz) (hroot : RootIs w0 r xs) (hrise : RisingX xs) (hpx : ∀ x ∈ xs, PX x) (hJ0 : J [] W) :
    CallsIn Fence.wide n Try.prog 45 #[.func (.yield l) #[] #[], .pointer (some ⟨B1, 0, none⟩), .pointer (some ⟨BT, 0, none⟩)] W fun e W' => (∃ v, e = .returned v) ∧ ((∃ ys, ys = SeqX xs s ∧ J ys W') ∨ (∃ pre, pre <+: SeqX xs s ∧ Jx pre W')) := by
  obtain ⟨W2, eW2⟩ : ∃ W2, W2 = (W.alloc (.cells #[.func (.yield l) #[] #[]] 96)).alloc (.cells #[WalkF B1 (W.heap.size + 1) W.heap.size] 97) := ⟨_, rfl⟩
  have hb2 : Below W.heap.size W W2 := by
    rw [eW2]
    exact ((Below.refl _ W).alloc (Nat.le_refl _) _).alloc (by simp) _
  have hB3 : W2.heap[W.heap.size]? = some (.cells #[.func (.yield l) #[] #[]] 96) := by
    rw [eW2]
    exact (heap_alloc_old _ _ _ (by simp)).trans (heap_alloc_new W _)
  have hB2 : W2.heap[W.heap.size + 1]? = some (.cells #[WalkF B1 (W.heap.size + 1) W.heap.size] 97) := by
    rw [eW2]
    have h := heap_alloc_new (W.alloc (.cells #[.func (.yield l) #[] #[]] 96)) (.cells #[WalkF B1 (W.heap.size + 1) W.heap.size] 97)
    simp only [World.size_alloc] at h
    exact h
  have hbw : Below w0.heap.size w0 W2 := hb.trans (hb2.mono hb.size)
  have hX : Boxes W2 s l B1 (W.heap.size + 1) W.heap.size := ⟨(hb2.block B1 (Array.getElem?_eq_some_iff.1 h1).1).trans h1, hB2, hB3⟩
  have hJB : ∀ q W1 W', J q W1 → Below W1.heap.size W1 W' → J q W' := fun q W1 W' h1 h2 => abides_below hJ h1 h2
  have hYY : ∀ m pre x W, PX x → J pre W → pre.length < (SeqX xs s).length → YieldAt Fence.wide m Try.prog l (encF x) W fun e W' =>
      (e = .returned (.bool true) ∧ J (pre ++ [x]) W' ∧ Kp w0.heap.size p W W') ∨ (e = .returned (.bool false) ∧ Jx (pre ++ [x]) W') := fun m pre x W h0 h1 h2 => yieldAt_depth rfl m (hY pre x W h0 h1 h2)
  have hwc : WalkC W2 w0.heap.size p (SeqX xs s).length B1 (W.heap.size + 1) W.heap.size J Jx r (SeqX xs s) := by
    rcases hroot with ⟨rfl, rfl⟩ | ⟨h, t, b, rfl, q1, q2, rfl⟩
    · exact walk_none _ _ _ _ _ _ _ _ _
    · exact walk_all PX W2 w0 p _ l B1 _ _ J Jx hJB hYY s hX hp hbw h t b q1 q2 hrise hpx
  have hbd : Below W2.heap.size W2 W2.drew := (Below.refl _ W2).drew
  have hs2 : w0.heap.size ≤ W2.heap.size := hbw.size
  have WD := Lib.hid (hwc (n - 1) [] W2.drew (Kp.of_below hbd hs2) (hJB _ _ _ (abides_below hJ hJ0 hb2) hbd) (by simp))
  have HTOP := Lib.hid ((callsIn_wide (n := n - 1)).2 (top_is (htop.below (hbw.trans (hbd.mono hs2)))))
  have cT : W2.drew.cell? ⟨BT, 0, none⟩ = some (.pointer tp) := obj_cell ((hb2.block BT (Array.getElem?_eq_some_iff.1 hT).1).trans hT) 0
  have c2 : W2.drew.cell? ⟨W.heap.size + 1, 0, none⟩ = some (.func (.func 46) #[] #[.pointer (some ⟨B1, 0, none⟩), .pointer (some ⟨W.heap.size + 1, 0, none⟩), .pointer (some ⟨W.heap.size, 0, none⟩)]) := obj_cell hB2 0
  have EW := Lib.hid eW2
  clear hJ hY hb h1 hT hp htop hroot hrise hpx hJ0 eW2 hb2 hB3 hB2 hbw hX hJB hYY hwc hbd hs2
  refine callsIn_of_wp Try.func45 rfl (wide_fn _) ?_ wide_round
  simp only [Try.ntmps45, List.size_toArray, List.length_cons, List.length_nil, Nat.reduceAdd, Nat.reduceSub, Array.replicate_succ, Array.replicate_zero, List.push_toArray, List.append_toArray, List.nil_append, List.cons_append]
  gi_wp2_with fail
  have ew := EW.out
  unfold WalkF at ew
  rw [← ew]
  clear ew
  gi_region_with (first
    | (refine ⟨trivial, (fun h => by cases h), ?_⟩; gi_at_call 28; (with_reducible refine HTOP.out.mono ?_); rintro e w2 ⟨rfl, rfl⟩)
    | (refine ⟨trivial, (fun h => by cases h), ?_⟩; gi_at_call 46; (with_reducible refine WD.out.mono ?_); rintro e w3 ⟨ok, rfl, hA⟩))
  all_goals
    gi_wp2_with fail
    go_end0
    refine ⟨⟨_, rfl⟩, ?_⟩
    cases ok with
    | true => exact .inl ⟨_, rfl, by simpa using (hA.1 rfl).1⟩
    | false =>
      obtain ⟨q, h1, h2⟩ := hA.2 rfl
      exact .inr ⟨q, h1, by simpa using h2⟩
set_option maxRecDepth 100000 in
theorem from_is (n : Nat) (tp : Option Addr) (s : ByteArray) (w : World) : CallsIn Fence.wide n Try.prog 34 #[.pointer tp, .string s] w fun e w' =>
    e = .returned (.func (.func 45) #[] #[.pointer (some ⟨w.heap.size + 1, 0, none⟩), .pointer (some ⟨w.heap.size, 0, none⟩)]) ∧
    w' = (w.alloc (.cells #[.pointer tp] 29)).alloc (.cells #[.string s] 9) := by
  refine callsIn_of_wp Try.func34 rfl (wide_fn _) ?_ wide_round
  simp only [Try.ntmps34, List.size_toArray, List.length_cons, List.length_nil, Nat.reduceAdd, Nat.reduceSub, Array.replicate_succ, Array.replicate_zero, List.push_toArray, List.append_toArray, List.nil_append, List.cons_append]
  gi_wp2
  go_ret
  exact ⟨rfl, rfl⟩
/-- The iterator's contract, for a range over it: it hands over files of which PX holds. -/
theorem seq_tree (PX : FX → Prop) (n : Nat) (B1 BT : Nat) (w0 w : World) (p : Nat → TypeId → Prop) (s : ByteArray) (tp r : Option Addr) (sz : Nat) (xs : List FX)
    (hb : Below w0.heap.size w0 w) (h1 : w.heap[B1]? = some (.cells #[.string s] 9)) (hT : w.heap[BT]? = some (.cells #[.pointer tp] 29))
    (p1 : p B1 9) (p2 : ∀ k, w.heap.size ≤ k → p k 97) (p3 : ∀ k, w.heap.size ≤ k → p k 96) (htop : TopIs w0 tp r sz) (hroot : RootIs w0 r xs) (hrise : RisingX xs) (hpx : ∀ x ∈ xs, PX x) :
    SeqStopsK Fence.wide n Try.prog 45 #[.pointer (some ⟨B1, 0, none⟩), .pointer (some ⟨BT, 0, none⟩)] (fun x : { x : FX // PX x } => encF x.1) (Kp w0.heap.size p) (fun ys => ys.map (·.1) = SeqX xs s) (fun pre => pre.map (·.1) <+: SeqX xs s) (SeqX xs s).length w := by
  intro l J Jx W hW hJ hJx hY hJ0
  refine (closure_tree PX n l B1 BT w0 p s tp r sz xs (fun q W => ∃ q' : List { x : FX // PX x }, q'.map (·.1) = q ∧ J q' W) (fun q W => ∃ q' : List { x : FX // PX x }, q'.map (·.1) = q ∧ Jx q' W) W ?_ ?_ (hb.trans (hW.mono hb.size)) ((hW.block B1 (Array.getElem?_eq_some_iff.1 h1).1).trans h1) ((hW.block BT (Array.getElem?_eq_some_iff.1 hT).1).trans hT) ⟨p1, p2 _ (Nat.le_succ_of_le hW.size), p3 _ hW.size⟩ htop hroot hrise hpx ⟨[], rfl, hJ0⟩).mono ?_
  · rintro q A B row ⟨q', e, h⟩ hg hr
    exact ⟨q', e, hJ q' A B row h hg hr⟩
  · rintro pre x V hx ⟨q', rfl, h⟩ hlen
    obtain ⟨fn, tmps, assign, body, hy, hR⟩ := hY q' ⟨x, hx⟩ V h (by simpa using hlen)
    refine ⟨fn, tmps, assign, body, hy, hR.mono ?_⟩
    rintro e W' (⟨h1, h2, h3⟩ | ⟨h1, h2⟩)
    · exact .inl ⟨h1, ⟨_, by simp, h2⟩, h3⟩
    · exact .inr ⟨h1, ⟨_, by simp, h2⟩⟩
  · rintro e W' ⟨hv, (⟨ys, rfl, q', e', h⟩ | ⟨pre, hp, q', e', h⟩)⟩
    · exact ⟨hv, .inl ⟨q', e', h⟩⟩
    · exact ⟨hv, .inr ⟨q', by subst e'; exact hp, h⟩⟩
end Go.Proofs.Ytcjbhjbjkfgphaa

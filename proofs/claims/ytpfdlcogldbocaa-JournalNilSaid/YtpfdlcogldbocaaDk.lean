/-
  A disk, and the document's answer's, each in a set of blocks of its own: what their calls return and leave, by what the disk began with and its calls alone. Conditions: those named at each contract.
-/
import Derived.Test.YtpfdlcogldbocaaPair
import Derived.Test.YtpfdlcogldbocaaModel
namespace Go.Proofs.Ytpfdlcogldbocaa
open Go.RowKit Go.Maps

/-- A set of blocks, and those that were made since. -/
def grow (Z : Nat → Prop) (w w' : World) : Nat → Prop := fun j => Z j ∨ (w.heap.size ≤ j ∧ j < w'.heap.size)
theorem Turned.widen {S T : Nat → Prop} {a b : World} (h : Turned S a b) (hT : ∀ j, S j → T j) : Turned T a b := ⟨h.os, h.tape, h.output, h.size, fun k hk hn => h.block k hk (fun hs => hn (hT k hs))⟩
theorem Turned.self {S : Nat → Prop} {w w' : World} (h : w = w') : Turned S w w' := h ▸ Turned.refl _ _

/-- A disk of n blocks at p, in the blocks Z: it began with F, these are its calls; no more than m in all. -/
def Dk (w : World) (Z : Nat → Prop) (p n : Nat) (F : Int → Option (List UInt8)) (cs : List CallM) (m : Nat) : Prop :=
  ∃ bf bs v kf S, DiskIs w p bf bs v n kf F S cs ∧ Lays F S cs ∧ Blocks32 F ∧ Blocks32 S ∧ kf + cs.length ≤ m ∧ (∀ j, foot p bf bs v j → Z j) ∧ ∀ j, Z j → j < w.heap.size

section
variable {w : World} {Z : Nat → Prop} {p n : Nat} {F : Int → Option (List UInt8)} {cs : List CallM} {m : Nat}

theorem Dk.f32 (h : Dk w Z p n F cs m) : Blocks32 F := by
  obtain ⟨_, _, _, _, _, _, _, h, _⟩ := h
  exact h
theorem Dk.ok (h : Dk w Z p n F cs m) : ∀ c ∈ cs, c.ok := by
  obtain ⟨_, _, _, _, _, h, _⟩ := h
  exact h.2.2.2.2.2
theorem Dk.len (h : Dk w Z p n F cs m) : cs.length ≤ m := by
  obtain ⟨_, _, _, _, _, _, _, _, _, h, _⟩ := h
  omega
theorem Dk.zlt (h : Dk w Z p n F cs m) : ∀ j, Z j → j < w.heap.size := by
  obtain ⟨_, _, _, _, _, _, _, _, _, _, _, h⟩ := h
  exact h
theorem Dk.more (h : Dk w Z p n F cs m) {m' : Nat} (hm : m ≤ m') : Dk w Z p n F cs m' := by
  obtain ⟨bf, bs, v, kf, S, h1, h2, h3, h4, h5, h6, h7⟩ := h
  exact ⟨bf, bs, v, kf, S, h1, h2, h3, h4, by omega, h6, h7⟩
theorem Dk.turned (h : Dk w Z p n F cs m) {w' : World} {T : Nat → Prop} (ht : Turned T w w') (hT : ∀ j, Z j → ¬ T j) : Dk w' Z p n F cs m := by
  obtain ⟨bf, bs, v, kf, S, h1, h2, h3, h4, h5, h6, h7⟩ := h
  exact ⟨bf, bs, v, kf, S, h1.turned ht (fun j hj => hT j (h6 j hj)), h2, h3, h4, h5, h6, fun j hj => Nat.lt_of_lt_of_le (h7 j hj) ht.size⟩
theorem Dk.below (h : Dk w Z p n F cs m) {w' : World} (hb : Below w.heap.size w w') : Dk w' Z p n F cs m := h.turned (Turned.of_below (S := fun _ => False) hb) (fun _ _ h => h)
theorem Dk.wide (h : Dk w Z p n F cs m) {Z' : Nat → Prop} (hZ : ∀ j, Z j → Z' j) (hl : ∀ j, Z' j → j < w.heap.size) : Dk w Z' p n F cs m := by
  obtain ⟨bf, bs, v, kf, S, h1, h2, h3, h4, h5, h6, h7⟩ := h
  exact ⟨bf, bs, v, kf, S, h1, h2, h3, h4, h5, fun j hj => hZ j (h6 j hj), hl⟩

/-- Behind a call that a step tells. -/
theorem Dk.step {bf bs : Nat} {v : Value} {kf : Nat} {S' : Int → Option (List UInt8)} {cs' : List CallM} {r : Int} {e : Ending} {w' : World} (hf : Blocks32 F) (hZ : ∀ j, foot p bf bs v j → Z j) (hz : ∀ j, Z j → j < w.heap.size)
    (hst : Step w p bf bs v n kf F S' cs' r e w') (hl : Lays F S' cs') (hs : Blocks32 S') (hm : kf + cs'.length ≤ m) : e = .returned (.int .i64 r) ∧ Dk w' (grow Z w w') p n F cs' m ∧ Turned Z w w' := by
  obtain ⟨he, v', hd, hv, ht⟩ := hst
  have hlt := hd.lt
  have htZ := ht.widen hZ
  refine ⟨he, ⟨bf, bs, v', kf, S', hd, hl, hf, hs, hm, fun j hj => ?_, fun j hj => ?_⟩, htZ⟩
  · have hjl := hlt j hj
    rcases hj with hj | hj | hj | hj
    · exact .inl (hZ j (.inl hj))
    · exact .inl (hZ j (.inr (.inl hj)))
    · exact .inl (hZ j (.inr (.inr (.inl hj))))
    · rcases hv with hv | ⟨g, hg, hgl⟩
      · exact .inl (hZ j (.inr (.inr (.inr (by rw [← hv]; exact hj)))))
      · rw [hg] at hj
        injection hj with hj
        exact .inr ⟨by omega, hjl⟩
  · rcases hj with hj | hj
    · exact Nat.lt_of_lt_of_le (hz j hj) ht.size
    · exact hj.2

def DkIs (Z : Nat → Prop) (p n : Nat) (F : Int → Option (List UInt8)) (cs : List CallM) (m : Nat) (w : World) (r : Int) (e : Ending) (w' : World) : Prop :=
  e = .returned (.int .i64 r) ∧ Dk w' (grow Z w w') p n F cs m ∧ Turned Z w w'

theorem dk_write (h : Dk w Z p n F cs m) (hm : m < 1073741824) (hn : n ≤ 65536) (x : Int) (l : List UInt8) (A : Option Addr) (cap k : Nat) (hk : k = l.length) (hb : BytesAt w A l) (hcap : k ≤ cap) (hA : 0 < l.length → ∀ g o, A = some ⟨g, o, none⟩ → ¬ Z g) :
    Calls Try.prog 16 #[.pointer (some ⟨p, 0, none⟩), .int .i64 x, .slice A k cap] w (DkIs Z p n F (wCs n cs x l) (m + 1) w (wCode n x l)) := by
  subst hk
  obtain ⟨bf, bs, v, kf, S, h1, h2, h3, h4, h5, h6, h7⟩ := h
  refine (write_any p bf bs v n kf F S cs x l A cap w h1 (by omega) hn hb hcap (fun hl g o e hf => hA hl g o e (h6 g hf))).mono fun e w' hst => ?_
  exact Dk.step h3 h6 h7 hst (h2.step h3 h4) (blocks32_wS h4) (by have := length_wCs (n := n) (cs := cs) (x := x) (l := l); omega)
theorem dk_sync (h : Dk w Z p n F cs m) (hm : m < 1073741824) :
    Calls Try.prog 45 #[.pointer (some ⟨p, 0, none⟩)] w (DkIs Z p n F (cs ++ [syncM]) (m + 1) w 0) := by
  obtain ⟨bf, bs, v, kf, S, h1, h2, h3, h4, h5, h6, h7⟩ := h
  refine (sync_step p bf bs v n kf F S cs w h1 (by omega)).mono fun e w' hst => ?_
  exact Dk.step h3 h6 h7 hst h2.sync h4 (by simp; omega)

/-- A block's bytes, in memory of their own. -/
def DkRead (l : List UInt8) (w : World) (e : Ending) (w' : World) : Prop :=
  ∃ g, e = .returned (.tuple #[.slice (some ⟨g, 0, none⟩) 32 32, .int .i64 0]) ∧ BytesAt w' (some ⟨g, 0, none⟩) l ∧ w.heap.size ≤ g ∧ g < w'.heap.size ∧ Below w.heap.size w w'
theorem dk_read (h : Dk w Z p n F cs m) (hn : n ≤ 65536) (x : Int) (h0 : 0 ≤ x) (hx : x < n) :
    Calls Try.prog 27 #[.pointer (some ⟨p, 0, none⟩), .int .i64 x] w (DkRead (con F cs x) w) := by
  obtain ⟨bf, bs, v, kf, S, h1, h2, h3, h4, h5, h6, h7⟩ := h
  rw [con_rd h2]
  refine (read_in p bf bs v n kf F S cs x w h1 h0 hx hn (fun l hl => h3 _ l hl) (fun l hl => h4 _ l hl)).mono fun e w' ⟨g, he, hg, hlt, hb⟩ => ?_
  exact ⟨g, he, bytesAt_blk hg, hlt, lt_of_some hg, hb⟩
theorem dk_blocks (h : Dk w Z p n F cs m) : Calls Try.prog 33 #[.pointer (some ⟨p, 0, none⟩)] w fun e w' => e = .returned (.int .i64 (n : Int)) ∧ w = w' := by
  obtain ⟨bf, bs, v, kf, S, h1, _⟩ := h
  exact blocks_is p n w h1.cell0
theorem dk_calls (h : Dk w Z p n F cs m) : Calls Try.prog 19 #[.pointer (some ⟨p, 0, none⟩)] w fun e w' => e = .returned (.int .i64 (cs.length : Int)) ∧ w = w' := by
  obtain ⟨bf, bs, v, kf, S, h1, _⟩ := h
  obtain ⟨A, cap, rfl⟩ := h1.shape
  exact calls_is p cs.length cap A w h1.cell3

/-- A new disk, in new memory. -/
def DkNew (n : Nat) (w : World) (e : Ending) (w' : World) : Prop :=
  ∃ p, e = .returned (.tuple #[.pointer (some ⟨p, 0, none⟩), .int .i64 0]) ∧ Dk w' (fun j => w.heap.size ≤ j ∧ j < w'.heap.size) p n (fun _ => none) [] 0 ∧ Below w.heap.size w w'
theorem dk_new (n : Nat) (w : World) (h0 : 1 ≤ n) (h1 : n ≤ 65536) : Calls Try.prog 7 #[.int .i64 (n : Int)] w (DkNew n w) := by
  refine (new_in n w h0 h1).mono fun e w' ⟨p, bf, bs, v, he, hd, hf, hb⟩ => ?_
  exact ⟨p, he, ⟨bf, bs, v, 0, _, hd, Lays.start _, none32, none32, Nat.le_refl _, fun j hj => ⟨hf j hj, hd.lt j hj⟩, fun j hj => hj.2⟩, hb⟩

/-- What a loss of power leaves, in new memory. -/
def DkCut (n : Nat) (F : Int → Option (List UInt8)) (cs : List CallM) (m : Nat) (at_ : Int) (ks : List Bool) (torn : Int) (w : World) (e : Ending) (w' : World) : Prop :=
  ∃ px k, e = .returned (.pointer (some ⟨px, 0, none⟩)) ∧ SyncAt (cs.take (red at_ (cs.length + 1))) k ∧ Dk w' (fun j => w.heap.size ≤ j ∧ j < w'.heap.size) px n (cutF F (cs.take (red at_ (cs.length + 1))) k ks torn) [] m ∧ Below w.heap.size w w'
theorem cutF32 (hF : Blocks32 F) {dn : List CallM} (hc : ∀ c ∈ dn, c.ok) {k : Nat} (hk : SyncAt dn k) (ks : List Bool) (torn : Int) : Blocks32 (cutF F dn k ks torn) := by
  have h1 := hk.1
  unfold cutF
  refine blocks32_layTo (blocks32_layTo hF (fun c h => hc c (List.mem_of_mem_take h)) (fun _ => Nat.le_refl _) k (by rw [List.length_take]; omega)) (fun c h => hc c (List.mem_of_mem_drop (keptM_mem _ _ c h))) (fun i => sizes_le _ _ i) _ (Nat.le_refl _)
theorem dk_cut (h : Dk w Z p n F cs m) (hm : m ≤ 1073741824) (at_ torn : Int) (K : Option Addr) (kcap : Nat) (ks : List Bool) (hat : (Lit.int .i64 at_).wf = true) (htorn : (Lit.int .i64 torn).wf = true) (hks : BoolsAt w K ks) (hkl : ks.length ≤ 9223372036854775807) :
    Calls Try.prog 18 #[.pointer (some ⟨p, 0, none⟩), .int .i64 at_, .slice K ks.length kcap, .int .i64 torn] w (DkCut n F cs m at_ ks torn w) := by
  have hok := h.ok
  obtain ⟨bf, bs, v, kf, S, h1, h2, h3, h4, h5, h6, h7⟩ := h
  refine (cut_in p bf bs v n kf F S cs at_ torn K kcap ks w h1 h3 (by omega) (by omega) hat htorn hks hkl).mono fun e w' ⟨k, px, bf', bs', v', hsy, he, hd', hft, hb⟩ => ?_
  exact ⟨px, k, he, hsy, ⟨bf', bs', v', kf + cs.length, _, hd', Lays.start _, cutF32 h3 (fun c hc => hok c (List.mem_of_mem_take hc)) hsy ks torn, none32, by simp; omega, fun j hj => ⟨hft j hj, hd'.lt j hj⟩, fun j hj => hj.2⟩, hb⟩
end

/-! ### the document's answer's disk -/
def Rk (w : World) (Z : Nat → Prop) (q n : Nat) (F : Int → Option (List UInt8)) (cs : List CallM) : Prop :=
  ∃ Y vB vL, RefIs w Y q n vB vL (fun x => (F x).getD zero32) cs ∧ (∀ j, Y j → ¬ refFoot q vB vL j) ∧ (∀ j, refFoot q vB vL j ∨ Y j → Z j) ∧ ∀ j, Z j → j < w.heap.size

section
variable {w : World} {Z : Nat → Prop} {q n : Nat} {F : Int → Option (List UInt8)} {cs : List CallM}
theorem Rk.zlt (h : Rk w Z q n F cs) : ∀ j, Z j → j < w.heap.size := by
  obtain ⟨_, _, _, _, _, _, h⟩ := h
  exact h
theorem Rk.turned (h : Rk w Z q n F cs) {w' : World} {T : Nat → Prop} (ht : Turned T w w') (hT : ∀ j, Z j → ¬ T j) : Rk w' Z q n F cs := by
  obtain ⟨Y, vB, vL, h1, h2, h3, h4⟩ := h
  exact ⟨Y, vB, vL, h1.turned ht (fun j hj => hT j (h3 j (.inl hj))) (fun j hj => hT j (h3 j (.inr hj))), h2, h3, fun j hj => Nat.lt_of_lt_of_le (h4 j hj) ht.size⟩
theorem Rk.below (h : Rk w Z q n F cs) {w' : World} (hb : Below w.heap.size w w') : Rk w' Z q n F cs := h.turned (Turned.of_below (S := fun _ => False) hb) (fun _ _ h => h)
theorem Rk.wide (h : Rk w Z q n F cs) {Z' : Nat → Prop} (hZ : ∀ j, Z j → Z' j) (hl : ∀ j, Z' j → j < w.heap.size) : Rk w Z' q n F cs := by
  obtain ⟨Y, vB, vL, h1, h2, h3, h4⟩ := h
  exact ⟨Y, vB, vL, h1, h2, fun j hj => hZ j (h3 j hj), hl⟩
theorem Rk.cell0 (h : Rk w Z q n F cs) : w.cell? ⟨q, 0, none⟩ = some (.int .i64 (n : Int)) := by
  obtain ⟨Y, vB, vL, h1, _⟩ := h
  exact cell_of_row _ _ 0 _ _ _ h1.1
/-- The calls' slice, of that length. -/
theorem Rk.cell2 (h : Rk w Z q n F cs) : ∃ A cap, w.cell? ⟨q, 2, none⟩ = some (.slice A cs.length cap) := by
  obtain ⟨Y, vB, vL, ⟨hbox, _, ⟨rows, hL, hLs⟩⟩, _⟩ := h
  obtain ⟨LA, lcap, rfl, _⟩ := ref_calls hL hLs
  exact ⟨LA, lcap, cell_of_row _ _ 2 _ _ _ hbox⟩

/-- A block's bytes, where they lie. -/
def RkRead (Z : Nat → Prop) (l : List UInt8) (w : World) (e : Ending) (w' : World) : Prop :=
  ∃ A cap, e = .returned (.tuple #[.slice A 32 cap, .int .i64 0]) ∧ BytesAt w A l ∧ (32 ≤ cap ∧ cap ≤ maxLen) ∧ (∀ g o, A = some ⟨g, o, none⟩ → Z g) ∧ w = w'
theorem rk_read (h : Rk w Z q n F cs) (hF : Blocks32 F) (hok : ∀ c ∈ cs, c.ok) (hc : cs.length ≤ 1073741824) (hn : n ≤ 65536) (x : Int) (h0 : 0 ≤ x) (hx : x < n) :
    Calls Try.prog 28 #[.pointer (some ⟨q, 0, none⟩), .int .i64 x] w (RkRead Z (con F cs x) w) := by
  obtain ⟨Y, vB, vL, h1, h2, h3, h4⟩ := h
  refine (ref_read Y q n vB vL _ cs x w h1 h0 hx hn hc).mono fun e w' ⟨v, he, ⟨A, cap, hv, hb, _, hcap, hy⟩, hw⟩ => ?_
  subst hv
  rw [rd_lays (fun _ => rfl) hF hok x cs.length (Nat.le_refl _)] at hb
  exact ⟨A, cap, he, hb, hcap, fun g o e => h3 g (.inr (hy g o e)), hw⟩

def RkIs (Z : Nat → Prop) (q n : Nat) (F : Int → Option (List UInt8)) (cs : List CallM) (w : World) (r : Int) (e : Ending) (w' : World) : Prop :=
  e = .returned (.int .i64 r) ∧ Rk w' (grow Z w w') q n F cs ∧ Turned Z w w'

/-- Behind a call that wrote. -/
theorem Rk.step {Y Y' : Nat → Prop} {vB vL vL' : Value} {cs' : List CallM} {w' : World} (hZ : ∀ j, refFoot q vB vL j ∨ Y j → Z j) (hz : ∀ j, Z j → j < w.heap.size) (hr : RefIs w' Y' q n vB vL' (fun x => (F x).getD zero32) cs') (hv : vL'.ownBlock = vL.ownBlock ∨ ∃ g, vL'.ownBlock = some g ∧ w.heap.size ≤ g)
    (ht : Turned (refFoot q vB vL) w w') (hY : ∀ j, Y' j → Y j ∨ w.heap.size ≤ j) (hlt : ∀ j, Y' j → j < w'.heap.size) (hsep : ∀ j, Y' j → ¬ refFoot q vB vL' j) : Rk w' (grow Z w w') q n F cs' ∧ Turned Z w w' := by
  have htZ := ht.widen (fun j hj => hZ j (.inl hj))
  obtain ⟨hbox2, ⟨bs2, hB2, _⟩, ⟨rows2, hL2, _⟩⟩ := id hr
  refine ⟨⟨Y', vB, vL', hr, hsep, fun j hj => ?_, fun j hj => ?_⟩, htZ⟩
  · rcases hj with (hj | hj | hj) | hj
    · exact .inl (hZ j (.inl (.inl hj)))
    · exact .inl (hZ j (.inl (.inr (.inl hj))))
    · rcases hv with hv | ⟨g, hg, hgl⟩
      · exact .inl (hZ j (.inl (.inr (.inr (by rw [← hv]; exact hj)))))
      · have := (hL2.lt j hj).2
        rw [hg] at hj
        injection hj with hj
        exact .inr ⟨by omega, this⟩
    · rcases hY j hj with h | h
      · exact .inl (hZ j (.inr h))
      · exact .inr ⟨h, hlt j hj⟩
  · rcases hj with hj | hj
    · exact Nat.lt_of_lt_of_le (hz j hj) ht.size
    · exact hj.2

theorem rk_sync (h : Rk w Z q n F cs) (hc : cs.length ≤ 1073741824) :
    Calls Try.prog 15 #[.pointer (some ⟨q, 0, none⟩)] w (RkIs Z q n F (cs ++ [syncM]) w 0) := by
  obtain ⟨Y, vB, vL, h1, h2, h3, h4⟩ := h
  refine (ref_sync Y q n vB vL _ cs w h1 h2 hc).mono fun e w' ⟨he, vL', hr, hv, ht, _⟩ => ?_
  have hyl : ∀ j, Y j → j < w.heap.size := fun j hj => h4 j (h3 j (.inr hj))
  obtain ⟨a, b⟩ := Rk.step h3 h4 hr hv ht (fun j hj => .inl hj) (fun j hj => Nat.lt_of_lt_of_le (hyl j hj) ht.size) (fun j hj hf => by
    rcases hf with hf | hf | hf
    · exact h2 j hj (.inl hf)
    · exact h2 j hj (.inr (.inl hf))
    · rcases hv with hv | ⟨g, hg, hgl⟩
      · exact h2 j hj (.inr (.inr (by rw [← hv]; exact hf)))
      · rw [hg] at hf
        injection hf with hf
        have := hyl j hj
        omega)
  exact ⟨he, a, b⟩

theorem rk_write (h : Rk w Z q n F cs) (hc : cs.length ≤ 1073741824) (hn : n ≤ 65536) (x : Int) (l : List UInt8) (A : Option Addr) (cap k : Nat) (hk : k = l.length) (hb : BytesAt w A l) (hA : 0 < l.length → ∀ g o, A = some ⟨g, o, none⟩ → ¬ Z g) :
    Calls Try.prog 17 #[.pointer (some ⟨q, 0, none⟩), .int .i64 x, .slice A k cap] w (RkIs Z q n F (wCs n cs x l) w (wCode n x l)) := by
  subst hk
  have c0 := h.cell0
  have stay : wCs n cs x l = cs → Rk w (grow Z w w) q n F (wCs n cs x l) ∧ Turned Z w w := fun e => by
    rw [e]
    exact ⟨h.wide (fun j hj => .inl hj) (fun j hj => hj.elim (h.zlt j) (fun hj => hj.2)), Turned.refl _ _⟩
  obtain ⟨Y, vB, vL, hr, h2, h3, h4⟩ := id h
  by_cases hx : 0 ≤ x ∧ x < n
  · by_cases h32 : l.length = 32
    · have hg : wGood n x l := ⟨hx.1, hx.2, h32⟩
      have ec : wCs n cs x l = cs ++ [⟨false, x, l⟩] := by unfold wCs; rw [if_pos hg]
      have er : wCode n x l = 0 := by unfold wCode; rw [if_pos hx, if_pos h32]
      obtain ⟨g, o, rfl, _⟩ := hb 0 (l[0]'(by omega)) (List.getElem?_eq_getElem (by omega))
      have hrg : w.rangeAt g o (bytesV l) := fun j u hu => by
        have hj : j < l.length := by have := (List.getElem?_eq_some_iff.1 hu).1; rwa [length_bytesV] at this
        obtain ⟨g', o', e, hc⟩ := hb j l[j] (List.getElem?_eq_getElem hj)
        injection e with e
        obtain ⟨rfl, rfl⟩ := (⟨(Addr.mk.inj e).1, (Addr.mk.inj e).2.1⟩ : g = g' ∧ o = o')
        rw [hc]
        simp only [bytesV, List.getElem?_map, List.getElem?_eq_getElem hj, Option.map_some] at hu
        exact hu
      have hA' := hA (by omega) g o rfl
      have hrw := ref_write Y q n vB vL _ cs x l g o cap w hr h2 hc hx.1 hx.2 hn h32 hrg (fun e => hA' (h3 g (.inl (.inr (.inr e)))))
      rw [h32]
      refine hrw.mono fun e w2 ⟨he, gy, hgy, ⟨C, hC⟩, vL', hr2, hv, ht, _⟩ => ?_
      rw [← ec] at hr2
      have hsz := ht.size
      have hgl := lt_of_some hC
      have hyl : ∀ j, Y j → j < w.heap.size := fun j hj => h4 j (h3 j (.inr hj))
      obtain ⟨a, b⟩ := Rk.step h3 h4 hr2 hv ht (fun j hj => hj.imp id (fun e => by rw [e]; exact hgy)) (fun j hj => by
        rcases hj with hj | hj
        · have := hyl j hj; omega
        · rw [hj]; exact hgl) (fun j hj hf2 => by
        obtain ⟨hbox2, ⟨bs2, hB2, _⟩, ⟨rows2, hL2, _⟩⟩ := hr2
        rcases hj with hj | hj
        · have hjl := hyl j hj
          rcases hf2 with hf2 | hf2 | hf2
          · exact h2 j hj (.inl hf2)
          · exact h2 j hj (.inr (.inl hf2))
          · rcases hv with hv | ⟨g2, hg2, hlt⟩
            · exact h2 j hj (.inr (.inr (by rw [← hv]; exact hf2)))
            · rw [hg2] at hf2
              injection hf2 with hf2
              omega
        · subst hj
          rcases hf2 with hf2 | hf2 | hf2
          · rw [hf2] at hgy
            have := lt_of_some hr.1
            omega
          · exact own_ne hB2 hC (by decide) hf2
          · exact own_ne hL2 hC (by decide) hf2)
      exact ⟨by rw [he, er], a, b⟩
    · have hg : ¬ wGood n x l := fun hh => h32 hh.2.2
      have er : wCode n x l = 1 := by unfold wCode; rw [if_pos hx, if_neg h32]
      have ec : wCs n cs x l = cs := by unfold wCs; rw [if_neg hg]
      refine (ref_write_len q n x A l.length cap w c0 hx.1 hx.2 h32).mono fun e w2 ⟨he, hw⟩ => ?_
      subst hw
      exact ⟨by rw [he, er], stay ec⟩
  · have hg : ¬ wGood n x l := fun hh => hx ⟨hh.1, hh.2.1⟩
    have er : wCode n x l = 21 := by unfold wCode; rw [if_neg hx]
    have ec : wCs n cs x l = cs := by unfold wCs; rw [if_neg hg]
    refine (ref_write_out q n x _ w c0 (by omega)).mono fun e w2 ⟨he, hw⟩ => ?_
    subst hw
    exact ⟨by rw [he, er], stay ec⟩

def RkNew (n : Nat) (w : World) (e : Ending) (w' : World) : Prop :=
  ∃ q, e = .returned (.tuple #[.pointer (some ⟨q, 0, none⟩), .int .i64 0]) ∧ Rk w' (fun j => w.heap.size ≤ j ∧ j < w'.heap.size) q n (fun _ => none) [] ∧ Below w.heap.size w w'
theorem rk_new (n : Nat) (w : World) (h0 : 0 < n) (h1 : n ≤ 65536) : Calls Try.prog 8 #[.int .i64 (n : Int)] w (RkNew n w) := by
  refine (ref_new n w h0 h1).mono fun e w' ⟨q, vB, Y, he, hr, hs, hy, hb⟩ => ?_
  exact ⟨q, he, ⟨Y, vB, _, hr, hs, hy, fun j hj => hj.2⟩, hb⟩

/-- What a loss of power leaves: its blocks' bytes may be the old disk's. -/
def RkCut (Z : Nat → Prop) (n : Nat) (F' : Int → Option (List UInt8)) (w : World) (e : Ending) (w' : World) : Prop :=
  ∃ py, e = .returned (.pointer (some ⟨py, 0, none⟩)) ∧ Rk w' (grow Z w w') py n F' [] ∧ Below w.heap.size w w'
theorem rk_cut (h : Rk w Z q n F cs) (_hF : Blocks32 F) (_hok : ∀ c ∈ cs, c.ok) (hn : n ≤ 65536) (hc : cs.length ≤ 1048576) (hpos : ∀ c ∈ cs, c.sync = false → 0 ≤ c.n ∧ c.n < n) (at_ torn : Int) (K : Option Addr) (kcap : Nat) (ks : List Bool) (hat : (Lit.int .i64 at_).wf = true) (htorn : (Lit.int .i64 torn).wf = true) (hks : BoolsAt w K ks) (hkl : ks.length ≤ 9223372036854775807)
    {k : Nat} (hsy : SyncAt (cs.take (red at_ (cs.length + 1))) k) :
    Calls Try.prog 20 #[.pointer (some ⟨q, 0, none⟩), .int .i64 at_, .slice K ks.length kcap, .int .i64 torn] w (RkCut Z n (cutF F (cs.take (red at_ (cs.length + 1))) k ks torn) w) := by
  obtain ⟨Y, vB, vL, hr, h2, h3, h4⟩ := h
  obtain ⟨l, el⟩ : ∃ l, l = cs.take (red at_ (cs.length + 1)) := ⟨_, rfl⟩
  rw [← el] at hsy ⊢
  obtain ⟨size, esz⟩ : ∃ size : Nat → Nat, ∀ j : Nat, size j = if (j : Int) = lastKept l (safeTo l l.length) ks l.length then red torn 33 else 32 := ⟨_, fun _ => rfl⟩
  refine (ref_cut Y q n vB vL _ cs w hr at_ torn K kcap ks hn hc hpos hat htorn hks hkl (fun j hj => h4 j (h3 j (.inr hj))) h2 l (safeTo l l.length) el rfl size esz).mono fun e w1 ⟨py, vBy, Yn, he, hr1, hsep, hYn, hfy, hYl, hb⟩ => ?_
  have hsafe := safe_of hsy
  have hkp : ∀ c ∈ keepTo l (safeTo l l.length) ks l.length, c ∈ l ∧ c.sync = false := keepTo_mem l _ ks l.length (Nat.le_refl _)
  have hB2 : (fun x => rdTo (fun x => (F x).getD zero32) (tornTo (fun x => (F x).getD zero32) (keepTo l (safeTo l l.length) ks l.length) size (keepTo l (safeTo l l.length) ks l.length).length) x (tornTo (fun x => (F x).getD zero32) (keepTo l (safeTo l l.length) ks l.length) size (keepTo l (safeTo l l.length) ks l.length).length).length) = fun x => (cutF F l k ks torn x).getD zero32 := by
    funext x
    rw [rdTo_torn (fun _ => rfl) (fun c hc => (hkp c hc).2) size _ (Nat.le_refl _) x, ← cut_same F hsy ks torn]
    have e2 : size = fun (i : Nat) => if (i : Int) = lastKept l (k - 1) ks l.length then red torn 33 else 32 := by
      funext j
      rw [esz, hsafe]
    rw [e2, hsafe]
  rw [hB2] at hr1
  obtain ⟨hboxy, ⟨by_, hBy, _⟩, _⟩ := id hr1
  have hs1 := hb.size
  refine ⟨py, he, ⟨Yn, vBy, _, hr1, hsep, fun j hj => ?_, fun j hj => ?_⟩, hb⟩
  · rcases hj with hj | hj
    · refine .inr ⟨hfy j hj, ?_⟩
      rcases hj with hj | hj | hj
      · rw [hj]; exact lt_of_some hboxy
      · exact (hBy.lt j hj).2
      · cases hj
    · rcases hYn j hj with hk | hk
      · exact .inl (h3 j (.inr hk))
      · exact .inr ⟨hk, hYl j hj⟩
  · rcases hj with hj | hj
    · have := h4 j hj; omega
    · exact hj.2
end
end Go.Proofs.Ytpfdlcogldbocaa

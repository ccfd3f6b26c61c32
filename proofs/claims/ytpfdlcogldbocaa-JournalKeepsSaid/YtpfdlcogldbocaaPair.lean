/-
  The program's disk and the reference's side by side: both lie in memory, apart, after the same calls; what a call of each makes of the two. Conditions: those named at each law.
  The two disks' calls of Write, Sync and Cut, one behind the other. Conditions: the two lie in memory as Pair says; the bytes lie outside of them.
-/
import Derived.Test.YtpfdlcogldbocaaRefCut2
import Derived.Test.YtpfdlcogldbocaaStep
import Derived.Test.YtpfdlcogldbocaaCut3
namespace Go.Proofs.Ytpfdlcogldbocaa
open Go.RowKit Go.Maps

/-- What a block has behind the calls, by the fold and by the maps. -/
theorem rd_lays {B : Int → List UInt8} {F : Int → Option (List UInt8)} (hB : ∀ x, B x = (F x).getD zero32) (hF : Blocks32 F) {cs : List CallM} (hc : ∀ c ∈ cs, c.ok) (x : Int) : ∀ k, k ≤ cs.length → rdTo B cs x k = (layTo F cs (fun _ => 32) k x).getD zero32
  | 0, _ => hB x
  | k + 1, hk => by
    have ih := rd_lays hB hF hc x k (by omega)
    have hb := blocks32_layTo hF hc (size := fun _ => 32) (fun _ => Nat.le_refl _) k (by omega)
    have hm : cs.getD k syncM ∈ cs := by rw [List.getD_eq_getElem?_getD, List.getElem?_eq_getElem (by omega)]; exact List.getElem_mem _
    have hok := hc _ hm
    show (if (cs.getD k syncM).sync = false ∧ (cs.getD k syncM).n = x then (cs.getD k syncM).bytes else rdTo B cs x k) = (laid (layTo F cs (fun _ => 32) k) (cs.getD k syncM) 32 x).getD zero32
    obtain ⟨c, ec⟩ : ∃ c, c = cs.getD k syncM := ⟨_, rfl⟩
    rw [← ec] at hok ⊢
    unfold laid
    cases hs : c.sync with
    | true => rw [if_neg (fun h => by cases h.1), if_pos rfl, ih]
    | false =>
      by_cases hx : c.n = x
      · rw [if_pos ⟨rfl, hx⟩, if_neg (by decide), tear_all (getD32 hb _) hok.1, ← hx, upd_same]; rfl
      · rw [if_neg (fun h => hx h.2), if_neg (by decide), tear_all (getD32 hb _) hok.1, ih, upd_other _ _ _ (fun e => hx e.symm)]

/-- The two disks, with all that tells them. -/
structure PairX (w0 w : World) (Z : Nat → Prop) (p q n i : Nat) (cs : List CallM) (bf bs : Nat) (v : Value) (kf : Nat) (F S : Int → Option (List UInt8)) (Y : Nat → Prop) (vB vL : Value) (B : Int → List UInt8) : Prop where
  d : DiskIs w p bf bs v n kf F S cs
  r : RefIs w Y q n vB vL B cs
  lays : Lays F S cs
  f32 : Blocks32 F
  s32 : Blocks32 S
  begin_ : ∀ x, B x = (F x).getD zero32
  pos : ∀ c ∈ cs, c.sync = false → 0 ≤ c.n ∧ c.n < n
  apart : ∀ j, foot p bf bs v j → ¬ refFoot q vB vL j ∧ ¬ Y j
  ysep : ∀ j, Y j → ¬ refFoot q vB vL j
  inZ : ∀ j, foot p bf bs v j ∨ refFoot q vB vL j ∨ Y j → Z j
  z0 : ∀ j, Z j → w0.heap.size ≤ j ∧ j < w.heap.size
  kfle : kf ≤ 64 * i
  csle : cs.length ≤ i
  below : Below w0.heap.size w0 w
def Pair (w0 w : World) (Z : Nat → Prop) (p q n i : Nat) (cs : List CallM) : Prop := ∃ bf bs v kf F S Y vB vL B, PairX w0 w Z p q n i cs bf bs v kf F S Y vB vL B

section
variable {w0 w : World} {Z : Nat → Prop} {p q n i : Nat} {cs : List CallM} {bf bs : Nat} {v : Value} {kf : Nat} {F S : Int → Option (List UInt8)} {Y : Nat → Prop} {vB vL : Value} {B : Int → List UInt8}

theorem PairX.agree (h : PairX w0 w Z p q n i cs bf bs v kf F S Y vB vL B) (x : Int) : rdTo B cs x cs.length = rd F S x := by
  rw [rd_lays h.begin_ h.f32 h.d.2.2.2.2.2 x cs.length (Nat.le_refl _), h.lays]
  show ((S x).or (F x)).getD zero32 = (S x).getD ((F x).getD zero32)
  cases S x <;> rfl

theorem PairX.turned (h : PairX w0 w Z p q n i cs bf bs v kf F S Y vB vL B) {w' : World} {T : Nat → Prop} (ht : Turned T w w') (hT : ∀ j, T j → ¬ Z j ∧ w0.heap.size ≤ j) : PairX w0 w' Z p q n i cs bf bs v kf F S Y vB vL B :=
  { d := h.d.turned ht (fun j hj hk => (hT j hk).1 (h.inZ j (.inl hj)))
    r := h.r.turned ht (fun j hj hk => (hT j hk).1 (h.inZ j (.inr (.inl hj)))) (fun j hj hk => (hT j hk).1 (h.inZ j (.inr (.inr hj))))
    lays := h.lays, f32 := h.f32, s32 := h.s32, begin_ := h.begin_, pos := h.pos, apart := h.apart, ysep := h.ysep, inZ := h.inZ
    z0 := fun j hj => ⟨(h.z0 j hj).1, Nat.lt_of_lt_of_le (h.z0 j hj).2 ht.size⟩
    kfle := h.kfle, csle := h.csle
    below := h.below.trans (ht.below h.below.size (fun j hj => (hT j hj).2)) }
theorem Pair.turned (h : Pair w0 w Z p q n i cs) {w' : World} {T : Nat → Prop} (ht : Turned T w w') (hT : ∀ j, T j → ¬ Z j ∧ w0.heap.size ≤ j) : Pair w0 w' Z p q n i cs := by
  obtain ⟨bf, bs, v, kf, F, S, Y, vB, vL, B, h⟩ := h
  exact ⟨bf, bs, v, kf, F, S, Y, vB, vL, B, h.turned ht hT⟩
theorem Pair.later (h : Pair w0 w Z p q n i cs) {w' : World} (hb : Below w.heap.size w w') : Pair w0 w' Z p q n i cs :=
  h.turned (Turned.of_below (S := fun _ => False) hb) (fun _ h => h.elim)
theorem Pair.more (h : Pair w0 w Z p q n i cs) : Pair w0 w Z p q n (i + 1) cs := by
  obtain ⟨bf, bs, v, kf, F, S, Y, vB, vL, B, h⟩ := h
  exact ⟨bf, bs, v, kf, F, S, Y, vB, vL, B, { h with kfle := by have := h.kfle; omega, csle := by have := h.csle; omega }⟩
theorem Pair.z0 (h : Pair w0 w Z p q n i cs) : ∀ j, Z j → w0.heap.size ≤ j ∧ j < w.heap.size := by
  obtain ⟨bf, bs, v, kf, F, S, Y, vB, vL, B, h⟩ := h
  exact h.z0
theorem Pair.below (h : Pair w0 w Z p q n i cs) : Below w0.heap.size w0 w := by
  obtain ⟨bf, bs, v, kf, F, S, Y, vB, vL, B, h⟩ := h
  exact h.below

/-- Behind New and New. -/
theorem Pair.start {w1 w2 : World} (hd : NewDisk w n (.returned (.tuple #[.pointer (some ⟨p, 0, none⟩), .int .i64 0])) w1) (hb : Below w0.heap.size w0 w)
    (hr : ∃ vB Y, RefIs w2 Y q n vB (.slice none 0 0) (fun _ => zero32) [] ∧ (∀ j, Y j → ¬ refFoot q vB (.slice none 0 0) j) ∧ (∀ j, refFoot q vB (.slice none 0 0) j ∨ Y j → w1.heap.size ≤ j ∧ j < w2.heap.size) ∧ Below w1.heap.size w1 w2) :
    Pair w0 w2 (fun j => w.heap.size ≤ j ∧ j < w2.heap.size) p q n 0 [] := by
  obtain ⟨p', bf, bs, v, e, hd, hf, hb1⟩ := hd
  have ep : p = p' := by simpa using e
  subst ep
  obtain ⟨vB, Y, hr, hs, hy, hb2⟩ := hr
  have h0 := hb.size
  have h1 := hb1.size
  have h2 := hb2.size
  have hd2 : DiskIs w2 p bf bs v n 0 (fun _ => none) (fun _ => none) [] := hd.turned (Turned.of_below (S := fun _ => False) hb2) (fun _ _ h => h)
  refine ⟨bf, bs, v, 0, _, _, Y, vB, _, _, { d := hd2, r := hr, lays := Lays.start _, f32 := none32, s32 := none32, begin_ := fun _ => rfl, pos := fun c hc => (by cases hc), apart := fun j hj => ?_, ysep := hs, inZ := fun j hj => ?_, z0 := fun j hj => ⟨by omega, hj.2⟩, kfle := Nat.zero_le _, csle := Nat.zero_le _, below := (hb.trans (hb1.mono h0)).trans (hb2.mono (by omega)) }⟩
  · have l1 := hd.lt j hj
    exact ⟨fun h => by have := (hy j (.inl h)).1; omega, fun h => by have := (hy j (.inr h)).1; omega⟩
  · rcases hj with hj | hj | hj
    · have l1 := hd.lt j hj
      have := hf j hj
      exact ⟨this, by omega⟩
    · have := hy j (.inl hj); exact ⟨by omega, this.2⟩
    · have := hy j (.inr hj); exact ⟨by omega, this.2⟩

/-! ### one call of each -/
/-- Behind the program's call, ahead of the reference's. -/
def Mid (w0 w : World) (Z : Nat → Prop) (p q n i : Nat) (cs cs' : List CallM) : Prop :=
  ∃ bf bs v kf F S Y vB vL B, DiskIs w p bf bs v n kf F S cs' ∧ RefIs w Y q n vB vL B cs ∧ Lays F S cs' ∧ Blocks32 F ∧ Blocks32 S ∧ (∀ x, B x = (F x).getD zero32) ∧ (∀ c ∈ cs', c.sync = false → 0 ≤ c.n ∧ c.n < n) ∧
    (∀ j, foot p bf bs v j → ¬ refFoot q vB vL j ∧ ¬ Y j) ∧ (∀ j, Y j → ¬ refFoot q vB vL j) ∧ (∀ j, foot p bf bs v j ∨ refFoot q vB vL j ∨ Y j → Z j) ∧ (∀ j, Z j → w0.heap.size ≤ j ∧ j < w.heap.size) ∧ kf ≤ 64 * i ∧ cs.length ≤ i ∧ cs'.length ≤ i + 1 ∧ Below w0.heap.size w0 w

theorem Pair.step1 (h : PairX w0 w Z p q n i cs bf bs v kf F S Y vB vL B) {w1 : World} {S' : Int → Option (List UInt8)} {cs' : List CallM} {r : Int} {e : Ending} (hst : Step w p bf bs v n kf F S' cs' r e w1) (hl : Lays F S' cs') (hs : Blocks32 S') (hp : ∀ c ∈ cs', c.sync = false → 0 ≤ c.n ∧ c.n < n) (hlen : cs'.length ≤ i + 1) :
    e = .returned (.int .i64 r) ∧ Mid w0 w1 (fun j => Z j ∨ (w.heap.size ≤ j ∧ j < w1.heap.size)) p q n i cs cs' ∧ Turned Z w w1 := by
  obtain ⟨rfl, v', hd, hv, ht⟩ := hst
  have hsz := ht.size
  have hb0 := h.below.size
  have hft : ∀ j, foot p bf bs v' j → foot p bf bs v j ∨ w.heap.size ≤ j := fun j hj => by
    rcases hj with hj | hj | hj | hj
    · exact .inl (.inl hj)
    · exact .inl (.inr (.inl hj))
    · exact .inl (.inr (.inr (.inl hj)))
    · rcases hv with hv | ⟨g, hg, hlt⟩
      · exact .inl (.inr (.inr (.inr (by rw [← hv]; exact hj))))
      · rw [hg] at hj
        injection hj with hj
        exact .inr (by omega)
  have rlt : ∀ j, refFoot q vB vL j ∨ Y j → j < w.heap.size := fun j hj => (h.z0 j (h.inZ j (.inr hj))).2
  have hr1 : RefIs w1 Y q n vB vL B cs := h.r.turned ht (fun j hj hk => (h.apart j hk).1 hj) (fun j hj hk => (h.apart j hk).2 hj)
  refine ⟨rfl, ⟨bf, bs, v', kf, F, S', Y, vB, vL, B, hd, hr1, hl, h.f32, hs, h.begin_, hp, fun j hj => ?_, h.ysep, fun j hj => ?_, fun j hj => ?_, h.kfle, h.csle, hlen, ?_⟩, ht.more (fun j hj => h.inZ j (.inl hj))⟩
  · rcases hft j hj with hj | hj
    · exact h.apart j hj
    · exact ⟨fun hk => by have := rlt j (.inl hk); omega, fun hk => by have := rlt j (.inr hk); omega⟩
  · rcases hj with hj | hj | hj
    · rcases hft j hj with hk | hk
      · exact .inl (h.inZ j (.inl hk))
      · exact .inr ⟨hk, hd.lt j hj⟩
    · exact .inl (h.inZ j (.inr (.inl hj)))
    · exact .inl (h.inZ j (.inr (.inr hj)))
  · rcases hj with hj | hj
    · have := h.z0 j hj; exact ⟨this.1, by omega⟩
    · exact ⟨by omega, hj.2⟩
  · exact h.below.trans (ht.below h.below.size (fun j hj => (h.z0 j (h.inZ j (.inl hj))).1))

theorem Mid.step2 {cs' : List CallM} {w2 : World} {Y' : Nat → Prop} {vL' : Value} (hd : DiskIs w p bf bs v n kf F S cs') (hr : RefIs w Y q n vB vL B cs) (hl : Lays F S cs') (hf : Blocks32 F) (hs : Blocks32 S) (hB : ∀ x, B x = (F x).getD zero32) (hp : ∀ c ∈ cs', c.sync = false → 0 ≤ c.n ∧ c.n < n)
    (ha : ∀ j, foot p bf bs v j → ¬ refFoot q vB vL j ∧ ¬ Y j) (hz : ∀ j, foot p bf bs v j ∨ refFoot q vB vL j ∨ Y j → Z j) (h0 : ∀ j, Z j → w0.heap.size ≤ j ∧ j < w.heap.size) (hk : kf ≤ 64 * i) (hlen : cs'.length ≤ i + 1) (hb : Below w0.heap.size w0 w)
    (hr2 : RefIs w2 Y' q n vB vL' B cs') (hv : vL'.ownBlock = vL.ownBlock ∨ ∃ g, vL'.ownBlock = some g ∧ w.heap.size ≤ g) (ht : Turned (refFoot q vB vL) w w2) (hY : ∀ j, Y' j → Y j ∨ w.heap.size ≤ j) (hsep : ∀ j, Y' j → ¬ refFoot q vB vL' j) (hYlt : ∀ j, Y' j → j < w2.heap.size) :
    Pair w0 w2 (fun j => Z j ∨ (w.heap.size ≤ j ∧ j < w2.heap.size)) p q n (i + 1) cs' ∧ Turned Z w w2 := by
  have _ := hr
  have hsz := ht.size
  have hb0 := hb.size
  have hft : ∀ j, refFoot q vB vL' j → refFoot q vB vL j ∨ w.heap.size ≤ j := fun j hj => by
    rcases hj with hj | hj | hj
    · exact .inl (.inl hj)
    · exact .inl (.inr (.inl hj))
    · rcases hv with hv | ⟨g, hg, hlt⟩
      · exact .inl (.inr (.inr (by rw [← hv]; exact hj)))
      · rw [hg] at hj
        injection hj with hj
        exact .inr (by omega)
  have rlt : ∀ j, refFoot q vB vL' j → j < w2.heap.size := fun j hj => by
    obtain ⟨hbox, ⟨bs, hB1, _⟩, ⟨rows, hL1, _⟩⟩ := hr2
    rcases hj with hj | hj | hj
    · rw [hj]; exact lt_of_some hbox
    · exact (hB1.lt j hj).2
    · exact (hL1.lt j hj).2
  refine ⟨⟨bf, bs, v, kf, F, S, Y', vB, vL', B, { d := hd.turned ht (fun j hj hk => (ha j hj).1 hk), r := hr2, lays := hl, f32 := hf, s32 := hs, begin_ := hB, pos := hp, apart := fun j hj => ?_, ysep := hsep, inZ := fun j hj => ?_, z0 := fun j hj => ?_, kfle := by omega, csle := hlen, below := hb.trans (ht.below hb.size (fun j hj => (h0 j (hz j (.inr (.inl hj)))).1)) }⟩, ht.more (fun j hj => hz j (.inr (.inl hj)))⟩
  · have hlt := hd.lt j hj
    exact ⟨fun hk => (hft j hk).elim (fun h => (ha j hj).1 h) (fun h => by omega), fun hk => (hY j hk).elim (fun h => (ha j hj).2 h) (fun h => by omega)⟩
  · rcases hj with hj | hj | hj
    · exact .inl (hz j (.inl hj))
    · rcases hft j hj with hk | hk
      · exact .inl (hz j (.inr (.inl hk)))
      · exact .inr ⟨hk, rlt j hj⟩
    · rcases hY j hj with hk | hk
      · exact .inl (hz j (.inr (.inr hk)))
      · exact .inr ⟨hk, hYlt j hj⟩
  · rcases hj with hj | hj
    · have := h0 j hj; exact ⟨this.1, by omega⟩
    · exact ⟨by omega, hj.2⟩
end
end Go.Proofs.Ytpfdlcogldbocaa

namespace Go.Proofs.Ytpfdlcogldbocaa
open Go.RowKit Go.Maps

section
variable {w0 w : World} {Z : Nat → Prop} {p q n i : Nat} {cs : List CallM}

theorem pos_wCs {x : Int} {l : List UInt8} (h : ∀ c ∈ cs, c.sync = false → 0 ≤ c.n ∧ c.n < n) : ∀ c ∈ wCs n cs x l, c.sync = false → 0 ≤ c.n ∧ c.n < n := by
  intro c hc hs
  unfold wCs at hc
  split at hc
  · rename_i hg
    rcases List.mem_append.1 hc with hc | hc
    · exact h c hc hs
    · have e : c = ⟨false, x, l⟩ := by simpa using hc
      subst e
      exact ⟨hg.1, hg.2.1⟩
  · exact h c hc hs

def Wrote1 (w0 w : World) (Z : Nat → Prop) (p q n i : Nat) (cs cs' : List CallM) (r : Int) (e : Ending) (w1 : World) : Prop :=
  e = .returned (.int .i64 r) ∧ ∃ Z1, Mid w0 w1 Z1 p q n i cs cs' ∧ Turned Z w w1 ∧ ∀ j, Z1 j → Z j ∨ w.heap.size ≤ j
def Wrote2 (w0 w : World) (Z : Nat → Prop) (p q n i : Nat) (cs' : List CallM) (r : Int) (e : Ending) (w1 : World) : Prop :=
  e = .returned (.int .i64 r) ∧ ∃ Z1, Pair w0 w1 Z1 p q n (i + 1) cs' ∧ Turned Z w w1 ∧ ∀ j, Z1 j → Z j ∨ w.heap.size ≤ j

theorem pair_write1 (h : Pair w0 w Z p q n i cs) (hn : n ≤ 65536) (hi : i ≤ 1048576) (x : Int) (l : List UInt8) (A : Option Addr) (cap : Nat) (hb : BytesAt w A l) (hcap : l.length ≤ cap) (hA : 0 < l.length → ∀ g o, A = some ⟨g, o, none⟩ → ¬ Z g) :
    Calls Try.prog 16 #[.pointer (some ⟨p, 0, none⟩), .int .i64 x, .slice A l.length cap] w (Wrote1 w0 w Z p q n i cs (wCs n cs x l) (wCode n x l)) := by
  obtain ⟨bf, bs, v, kf, F, S, Y, vB, vL, B, h⟩ := h
  refine (write_any p bf bs v n kf F S cs x l A cap w h.d (by have := h.csle; omega) hn hb hcap (fun hl g o e hf => hA hl g o e (h.inZ g (.inl hf)))).mono fun e w1 hst => ?_
  obtain ⟨he, hm, ht⟩ := Pair.step1 h hst (h.lays.step h.f32 h.s32) (blocks32_wS h.s32) (pos_wCs h.pos) (by have := length_wCs (n := n) (cs := cs) (x := x) (l := l); have := h.csle; omega)
  exact ⟨he, _, hm, ht, fun j hj => hj.imp id (fun h => h.1)⟩

theorem pair_sync1 (h : Pair w0 w Z p q n i cs) (hi : i ≤ 1048576) :
    Calls Try.prog 45 #[.pointer (some ⟨p, 0, none⟩)] w (Wrote1 w0 w Z p q n i cs (cs ++ [syncM]) 0) := by
  obtain ⟨bf, bs, v, kf, F, S, Y, vB, vL, B, h⟩ := h
  refine (sync_step p bf bs v n kf F S cs w h.d (by have := h.csle; omega)).mono fun e w1 hst => ?_
  obtain ⟨he, hm, ht⟩ := Pair.step1 h hst h.lays.sync h.s32 (fun c hc hs => by
    rcases List.mem_append.1 hc with hc | hc
    · exact h.pos c hc hs
    · have e : c = syncM := by simpa using hc
      subst e; cases hs) (by have := h.csle; simp; omega)
  exact ⟨he, _, hm, ht, fun j hj => hj.imp id (fun h => h.1)⟩

theorem pair_write2 {x : Int} {l : List UInt8} (h : Mid w0 w Z p q n i cs (wCs n cs x l)) (hn : n ≤ 65536) (hi : i ≤ 1048576) (A : Option Addr) (cap : Nat) (hb : BytesAt w A l) (hA : 0 < l.length → ∀ g o, A = some ⟨g, o, none⟩ → ¬ Z g) :
    Calls Try.prog 17 #[.pointer (some ⟨q, 0, none⟩), .int .i64 x, .slice A l.length cap] w (Wrote2 w0 w Z p q n i (wCs n cs x l) (wCode n x l)) := by
  obtain ⟨bf, bs, v, kf, F, S, Y, vB, vL, B, hd, hr, hl, hf, hs, hB, hp, ha, hy, hz, h0, hk, hlen, hlen', hbel⟩ := h
  have hbox := hr.1
  have c0 : w.cell? ⟨q, 0, none⟩ = some (.int .i64 (n : Int)) := cell_of_row _ _ 0 _ _ _ hbox
  have stay : ∀ r : Int, wCs n cs x l = cs → Wrote2 w0 w Z p q n i (wCs n cs x l) r (.returned (.int .i64 r)) w := fun r e => by
    obtain ⟨h1, h2⟩ := Mid.step2 hd hr hl hf hs hB hp ha hz h0 hk hlen' hbel (e.symm ▸ hr) (.inl rfl) (Turned.refl _ _) (fun j hj => .inl hj) hy (fun j hj => (h0 j (hz j (.inr (.inr hj)))).2)
    exact ⟨rfl, _, h1, h2, fun j hj => hj.imp id (fun h => h.1)⟩
  by_cases hx : 0 ≤ x ∧ x < n
  · by_cases h32 : l.length = 32
    · have hg : wGood n x l := ⟨hx.1, hx.2, h32⟩
      have ec : wCs n cs x l = cs ++ [⟨false, x, l⟩] := by unfold wCs; rw [if_pos hg]
      have er : wCode n x l = 0 := by unfold wCode; rw [if_pos hx, if_pos h32]
      obtain ⟨g, o, rfl, _⟩ := hb 0 (l[0]'(by omega)) (List.getElem?_eq_getElem (by omega))
      have hrg : w.rangeAt g o (bytesV l) := fun j u hu => by
        have hj : j < l.length := by have := (List.getElem?_eq_some_iff.1 hu).1; rwa [length_bytesV] at this
        obtain ⟨g', o', e, hc⟩ := hb j l[j] (List.getElem?_eq_getElem hj)
        injection e with e
        obtain ⟨rfl, rfl⟩ := (⟨(Addr.mk.inj e).1, (Addr.mk.inj e).2.1⟩ : g = g' ∧ o = o')
        rw [hc]
        simp only [bytesV, List.getElem?_map, List.getElem?_eq_getElem hj, Option.map_some] at hu
        exact hu
      have hA' := hA (by omega) g o rfl
      have hrw := ref_write Y q n vB vL B cs x l g o cap w hr hy (by omega) hx.1 hx.2 hn h32 hrg (fun e => hA' (hz g (.inr (.inl (.inr (.inr e))))))
      rw [h32]
      refine hrw.mono fun e w2 ⟨he, gy, hgy, ⟨C, hC⟩, vL', hr2, hv, ht, _⟩ => ?_
      rw [← ec] at hr2
      have hsz := ht.size
      have hgl := lt_of_some hC
      have q1 : ∀ j, (Y j ∨ j = gy) → j < w2.heap.size := fun j hj => by
        rcases hj with hj | hj
        · have := (h0 j (hz j (.inr (.inr hj)))).2; omega
        · rw [hj]; exact hgl
      have q2 : ∀ j, (Y j ∨ j = gy) → ¬ refFoot q vB vL' j := fun j hj hf2 => by
        obtain ⟨hbox2, ⟨bs2, hB2, _⟩, ⟨rows2, hL2, _⟩⟩ := hr2
        rcases hj with hj | hj
        · have hjl := (h0 j (hz j (.inr (.inr hj)))).2
          rcases hf2 with hf2 | hf2 | hf2
          · exact hy j hj (.inl hf2)
          · exact hy j hj (.inr (.inl hf2))
          · rcases hv with hv | ⟨g2, hg2, hlt⟩
            · exact hy j hj (.inr (.inr (by rw [← hv]; exact hf2)))
            · rw [hg2] at hf2
              injection hf2 with hf2
              omega
        · subst hj
          rcases hf2 with hf2 | hf2 | hf2
          · rw [hf2] at hgy
            have := lt_of_some hbox
            omega
          · exact own_ne hB2 hC (by decide) hf2
          · exact own_ne hL2 hC (by decide) hf2
      obtain ⟨h1, h2⟩ := Mid.step2 hd hr hl hf hs hB hp ha hz h0 hk hlen' hbel hr2 hv ht (fun j hj => hj.imp id (fun e => by rw [e]; exact hgy)) q2 q1
      exact ⟨by rw [he, er], _, h1, h2, fun j hj => hj.imp id (fun h => h.1)⟩
    · have hg : ¬ wGood n x l := fun hh => h32 hh.2.2
      have er : wCode n x l = 1 := by unfold wCode; rw [if_pos hx, if_neg h32]
      have ec : wCs n cs x l = cs := by unfold wCs; rw [if_neg hg]
      refine (ref_write_len q n x A l.length cap w c0 hx.1 hx.2 h32).mono fun e w2 ⟨he, hw⟩ => ?_
      subst hw; rw [he, er]
      exact stay 1 ec
  · have hg : ¬ wGood n x l := fun hh => hx ⟨hh.1, hh.2.1⟩
    have er : wCode n x l = 21 := by unfold wCode; rw [if_neg hx]
    have ec : wCs n cs x l = cs := by unfold wCs; rw [if_neg hg]
    refine (ref_write_out q n x _ w c0 (by omega)).mono fun e w2 ⟨he, hw⟩ => ?_
    subst hw; rw [he, er]
    exact stay 21 ec

theorem pair_sync2 (h : Mid w0 w Z p q n i cs (cs ++ [syncM])) (hi : i ≤ 1048576) :
    Calls Try.prog 15 #[.pointer (some ⟨q, 0, none⟩)] w (Wrote2 w0 w Z p q n i (cs ++ [syncM]) 0) := by
  obtain ⟨bf, bs, v, kf, F, S, Y, vB, vL, B, hd, hr, hl, hf, hs, hB, hp, ha, hy, hz, h0, hk, hlen, hlen', hbel⟩ := h
  refine (ref_sync Y q n vB vL B cs w hr hy (by omega)).mono fun e w2 ⟨he, vL', hr2, hv, ht, _⟩ => ?_
  have q2 : ∀ j, Y j → ¬ refFoot q vB vL' j := fun j hj hf2 => by
    rcases hf2 with hf2 | hf2 | hf2
    · exact hy j hj (.inl hf2)
    · exact hy j hj (.inr (.inl hf2))
    · rcases hv with hv | ⟨g, hg, hlt⟩
      · exact hy j hj (.inr (.inr (by rw [← hv]; exact hf2)))
      · rw [hg] at hf2
        injection hf2 with hf2
        have := (h0 j (hz j (.inr (.inr hj)))).2
        omega
  obtain ⟨h1, h2⟩ := Mid.step2 hd hr hl hf hs hB hp ha hz h0 hk hlen' hbel hr2 hv ht (fun j hj => .inl hj) q2 (fun j hj => by have := (h0 j (hz j (.inr (.inr hj)))).2; have := ht.size; omega)
  exact ⟨he, _, h1, h2, fun j hj => hj.imp id (fun h => h.1)⟩

/-- The two disks behind a Cut of the first. -/
def CutM (w0 w : World) (Z : Nat → Prop) (p q px n i : Nat) (cs : List CallM) (at_ : Int) (ks : List Bool) (torn : Int) : Prop :=
  ∃ bf bs v kf F S Y vB vL B, PairX w0 w Z p q n i cs bf bs v kf F S Y vB vL B ∧ ∃ k bf' bs' v', SyncAt (cs.take (red at_ (cs.length + 1))) k ∧ DiskIs w px bf' bs' v' n (kf + cs.length) (cutF F (cs.take (red at_ (cs.length + 1))) k ks torn) (fun _ => none) [] ∧ (∀ j, foot px bf' bs' v' j → w0.heap.size ≤ j ∧ ¬ Z j)

theorem pair_cut1 (h : Pair w0 w Z p q n i cs) (hi : i ≤ 65536) (at_ torn : Int) (K : Option Addr) (kcap : Nat) (ks : List Bool) (hat : (Lit.int .i64 at_).wf = true) (htorn : (Lit.int .i64 torn).wf = true) (hks : BoolsAt w K ks) (hkl : ks.length ≤ 9223372036854775807) :
    Calls Try.prog 18 #[.pointer (some ⟨p, 0, none⟩), .int .i64 at_, .slice K ks.length kcap, .int .i64 torn] w fun e w1 => ∃ px, e = .returned (.pointer (some ⟨px, 0, none⟩)) ∧ Below w.heap.size w w1 ∧ CutM w0 w1 Z p q px n i cs at_ ks torn := by
  obtain ⟨bf, bs, v, kf, F, S, Y, vB, vL, B, h⟩ := h
  have h1 := h.kfle
  have h2 := h.csle
  refine (cut_in p bf bs v n kf F S cs at_ torn K kcap ks w h.d h.f32 (by omega) (by omega) hat htorn hks hkl).mono fun e w1 ⟨k, px, bf', bs', v', hsy, he, hd', hft, hb⟩ => ?_
  have hb0 := h.below.size
  exact ⟨px, he, hb, bf, bs, v, kf, F, S, Y, vB, vL, B, h.turned (Turned.of_below (S := fun _ => False) hb) (fun _ h => h.elim), k, bf', bs', v', hsy, hd', fun j hj => ⟨by have := hft j hj; omega, fun hz => by have := hft j hj; have := (h.z0 j hz).2; omega⟩⟩

theorem pair_cut2 {px : Nat} {at_ torn : Int} {ks : List Bool} (h : CutM w0 w Z p q px n i cs at_ ks torn) (hn : n ≤ 65536) (hi : i ≤ 64) (K : Option Addr) (kcap : Nat) (hat : (Lit.int .i64 at_).wf = true) (htorn : (Lit.int .i64 torn).wf = true) (hks : BoolsAt w K ks) (hkl : ks.length ≤ 9223372036854775807) :
    Calls Try.prog 20 #[.pointer (some ⟨q, 0, none⟩), .int .i64 at_, .slice K ks.length kcap, .int .i64 torn] w fun e w1 => ∃ py, e = .returned (.pointer (some ⟨py, 0, none⟩)) ∧ Below w.heap.size w w1 ∧ Pair w0 w1 Z p q n i cs ∧ ∃ Z1, Pair w0 w1 Z1 px py n (i + 1) [] ∧ ∀ j, Z1 j → w0.heap.size ≤ j := by
  obtain ⟨bf, bs, v, kf, F, S, Y, vB, vL, B, h, k, bf', bs', v', hsy, hd', hft⟩ := h
  have h1 := h.kfle
  have h2 := h.csle
  obtain ⟨l, el⟩ : ∃ l, l = cs.take (red at_ (cs.length + 1)) := ⟨_, rfl⟩
  rw [← el] at hsy hd'
  obtain ⟨size, esz⟩ : ∃ size : Nat → Nat, ∀ j : Nat, size j = if (j : Int) = lastKept l (safeTo l l.length) ks l.length then red torn 33 else 32 := ⟨_, fun _ => rfl⟩
  refine (ref_cut Y q n vB vL B cs w h.r at_ torn K kcap ks hn (by omega) h.pos hat htorn hks hkl (fun j hj => (h.z0 j (h.inZ j (.inr (.inr hj)))).2) h.ysep l (safeTo l l.length) el rfl size esz).mono fun e w1 ⟨py, vBy, Yn, he, hr1, hsep, hYn, hfy, hYl, hb⟩ => ?_
  have hs1 := hb.size
  have hb0 := h.below.size
  have hsafe := safe_of hsy
  have hok := h.d.2.2.2.2.2
  have hlm : ∀ c ∈ l, c.ok := fun c hc => hok c (List.mem_of_mem_take (by rw [← el]; exact hc))
  have hkp : ∀ c ∈ keepTo l (safeTo l l.length) ks l.length, c ∈ l ∧ c.sync = false := keepTo_mem l _ ks l.length (Nat.le_refl _)
  have hB2 : ∀ x, (fun x => rdTo B (tornTo B (keepTo l (safeTo l l.length) ks l.length) size (keepTo l (safeTo l l.length) ks l.length).length) x (tornTo B (keepTo l (safeTo l l.length) ks l.length) size (keepTo l (safeTo l l.length) ks l.length).length).length) x = (cutF F l k ks torn x).getD zero32 := fun x => by
    show rdTo B _ x _ = _
    rw [rdTo_torn h.begin_ (fun c hc => (hkp c hc).2) size _ (Nat.le_refl _) x, ← cut_same F hsy ks torn]
    have e2 : size = fun (i : Nat) => if (i : Int) = lastKept l (k - 1) ks l.length then red torn 33 else 32 := by
      funext j
      rw [esz, hsafe]
    rw [e2, hsafe]
  have hF2 : Blocks32 (cutF F l k ks torn) := by
    rw [← cut_same F hsy ks torn]
    refine blocks32_layTo h.f32 (fun c hc => hlm c ?_) (fun j => ?_) _ (Nat.le_refl _)
    · rw [← hsafe] at hc
      exact (hkp c hc).1
    · show (if _ then red torn 33 else 32) ≤ 32
      have := red_lt torn 33 (by omega)
      split <;> omega
  have hd1 := hd'.turned (Turned.of_below (S := fun _ => False) hb) (fun _ _ h => h)
  have flt := hd'.lt
  obtain ⟨hboxy, ⟨by_, hBy, _⟩, _⟩ := id hr1
  refine ⟨py, he, hb, ⟨bf, bs, v, kf, F, S, Y, vB, vL, B, h.turned (Turned.of_below (S := fun _ => False) hb) (fun _ h => h.elim)⟩, fun j => foot px bf' bs' v' j ∨ refFoot py vBy (.slice none 0 0) j ∨ Yn j, ⟨bf', bs', v', kf + cs.length, _, _, Yn, vBy, _, _, { d := hd1, r := hr1, lays := Lays.start _, f32 := hF2, s32 := none32, begin_ := hB2, pos := fun c hc => (by cases hc), apart := fun j hj => ⟨fun hk => ?_, fun hk => ?_⟩, ysep := hsep, inZ := fun j hj => hj, z0 := fun j hj => ?_, kfle := by omega, csle := by simp, below := h.below.trans (hb.mono hb0) }⟩, fun j hj => ?_⟩
  · have := hfy j hk; have := flt j hj; omega
  · rcases hYn j hk with hk | hk
    · exact (hft j hj).2 (h.inZ j (.inr (.inr hk)))
    · have := flt j hj; omega
  · rcases hj with hj | hj | hj
    · exact ⟨(hft j hj).1, by have := flt j hj; omega⟩
    · refine ⟨by have := hfy j hj; omega, ?_⟩
      rcases hj with hj | hj | hj
      · rw [hj]; exact lt_of_some hboxy
      · exact (hBy.lt j hj).2
      · cases hj
    · refine ⟨?_, hYl j hj⟩
      rcases hYn j hj with hk | hk
      · exact (h.z0 j (h.inZ j (.inr (.inr hk)))).1
      · omega
  · rcases hj with hj | hj | hj
    · exact (hft j hj).1
    · have := hfy j hj; omega
    · rcases hYn j hj with hk | hk
      · exact (h.z0 j (h.inZ j (.inr (.inr hk)))).1
      · omega
end
end Go.Proofs.Ytpfdlcogldbocaa

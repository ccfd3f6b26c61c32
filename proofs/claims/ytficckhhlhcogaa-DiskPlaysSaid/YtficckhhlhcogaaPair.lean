/-
  The program's disk and the reference's side by side: both lie in memory, apart, after the same calls; what a call of each makes of the two. Conditions: those named at each law.
-/
import Derived.Test.YtficckhhlhcogaaRefCut2
import Derived.Test.YtficckhhlhcogaaAlike
import Derived.Test.YtficckhhlhcogaaStep
import Derived.Test.YtficckhhlhcogaaCut3
namespace Go.Proofs.Ytficckhhlhcogaa
open Go.RowKit Go.Maps

/-- What a block has behind the calls, by the fold and by the maps. -/
theorem rd_lays {B : Int → List UInt8} {F : Int → Option (List UInt8)} (hB : ∀ x, B x = (F x).getD zero32) (hF : Blocks32 F) {cs : List CallM} (hc : ∀ c ∈ cs, c.ok) (x : Int) : ∀ k, k ≤ cs.length → rdTo B cs x k = (layTo F cs (fun _ => 32) k x).getD zero32
  | 0, _ => hB x
  | k + 1, hk => by
    have ih := rd_lays hB hF hc x k (by omega)
    have hb := blocks32_layTo hF hc (size := fun _ => 32) (fun _ => Nat.le_refl _) k (by omega)
    have hm : cs.getD k syncM ∈ cs := by rw [List.getD_eq_getElem?_getD, List.getElem?_eq_getElem (by omega)]; exact List.getElem_mem _
    have hok := hc _ hm
    show (if (cs.getD k syncM).sync = false ∧ (cs.getD k syncM).n = x then (cs.getD k syncM).bytes else rdTo B cs x k) = (laid (layTo F cs (fun _ => 32) k) (cs.getD k syncM) 32 x).getD zero32
    obtain ⟨c, ec⟩ : ∃ c, c = cs.getD k syncM := ⟨_, rfl⟩
    rw [← ec] at hok ⊢
    unfold laid
    cases hs : c.sync with
    | true => rw [if_neg (fun h => by cases h.1), if_pos rfl, ih]
    | false =>
      by_cases hx : c.n = x
      · rw [if_pos ⟨rfl, hx⟩, if_neg (by decide), tear_all (getD32 hb _) hok.1, ← hx, upd_same]; rfl
      · rw [if_neg (fun h => hx h.2), if_neg (by decide), tear_all (getD32 hb _) hok.1, ih, upd_other _ _ _ (fun e => hx e.symm)]

/-- The two disks, with all that tells them. -/
structure PairX (w0 w : World) (Z : Nat → Prop) (p q n i : Nat) (cs : List CallM) (bf bs : Nat) (v : Value) (kf : Nat) (F S : Int → Option (List UInt8)) (Y : Nat → Prop) (vB vL : Value) (B : Int → List UInt8) : Prop where
  d : DiskIs w p bf bs v n kf F S cs
  r : RefIs w Y q n vB vL B cs
  lays : Lays F S cs
  f32 : Blocks32 F
  s32 : Blocks32 S
  begin_ : ∀ x, B x = (F x).getD zero32
  pos : ∀ c ∈ cs, c.sync = false → 0 ≤ c.n ∧ c.n < n
  apart : ∀ j, foot p bf bs v j → ¬ refFoot q vB vL j ∧ ¬ Y j
  ysep : ∀ j, Y j → ¬ refFoot q vB vL j
  inZ : ∀ j, foot p bf bs v j ∨ refFoot q vB vL j ∨ Y j → Z j
  z0 : ∀ j, Z j → w0.heap.size ≤ j ∧ j < w.heap.size
  kfle : kf ≤ 64 * i
  csle : cs.length ≤ i
  below : Below w0.heap.size w0 w
def Pair (w0 w : World) (Z : Nat → Prop) (p q n i : Nat) (cs : List CallM) : Prop := ∃ bf bs v kf F S Y vB vL B, PairX w0 w Z p q n i cs bf bs v kf F S Y vB vL B

section
variable {w0 w : World} {Z : Nat → Prop} {p q n i : Nat} {cs : List CallM} {bf bs : Nat} {v : Value} {kf : Nat} {F S : Int → Option (List UInt8)} {Y : Nat → Prop} {vB vL : Value} {B : Int → List UInt8}

theorem PairX.agree (h : PairX w0 w Z p q n i cs bf bs v kf F S Y vB vL B) (x : Int) : rdTo B cs x cs.length = rd F S x := by
  rw [rd_lays h.begin_ h.f32 h.d.2.2.2.2.2 x cs.length (Nat.le_refl _), h.lays]
  show ((S x).or (F x)).getD zero32 = (S x).getD ((F x).getD zero32)
  cases S x <;> rfl

theorem PairX.turned (h : PairX w0 w Z p q n i cs bf bs v kf F S Y vB vL B) {w' : World} {T : Nat → Prop} (ht : Turned T w w') (hT : ∀ j, T j → ¬ Z j ∧ w0.heap.size ≤ j) : PairX w0 w' Z p q n i cs bf bs v kf F S Y vB vL B :=
  { d := h.d.turned ht (fun j hj hk => (hT j hk).1 (h.inZ j (.inl hj)))
    r := h.r.turned ht (fun j hj hk => (hT j hk).1 (h.inZ j (.inr (.inl hj)))) (fun j hj hk => (hT j hk).1 (h.inZ j (.inr (.inr hj))))
    lays := h.lays, f32 := h.f32, s32 := h.s32, begin_ := h.begin_, pos := h.pos, apart := h.apart, ysep := h.ysep, inZ := h.inZ
    z0 := fun j hj => ⟨(h.z0 j hj).1, Nat.lt_of_lt_of_le (h.z0 j hj).2 ht.size⟩
    kfle := h.kfle, csle := h.csle
    below := h.below.trans (ht.below h.below.size (fun j hj => (hT j hj).2)) }
theorem Pair.turned (h : Pair w0 w Z p q n i cs) {w' : World} {T : Nat → Prop} (ht : Turned T w w') (hT : ∀ j, T j → ¬ Z j ∧ w0.heap.size ≤ j) : Pair w0 w' Z p q n i cs := by
  obtain ⟨bf, bs, v, kf, F, S, Y, vB, vL, B, h⟩ := h
  exact ⟨bf, bs, v, kf, F, S, Y, vB, vL, B, h.turned ht hT⟩
theorem Pair.later (h : Pair w0 w Z p q n i cs) {w' : World} (hb : Below w.heap.size w w') : Pair w0 w' Z p q n i cs :=
  h.turned (Turned.of_below (S := fun _ => False) hb) (fun _ h => h.elim)
theorem Pair.more (h : Pair w0 w Z p q n i cs) : Pair w0 w Z p q n (i + 1) cs := by
  obtain ⟨bf, bs, v, kf, F, S, Y, vB, vL, B, h⟩ := h
  exact ⟨bf, bs, v, kf, F, S, Y, vB, vL, B, { h with kfle := by have := h.kfle; omega, csle := by have := h.csle; omega }⟩
theorem Pair.z0 (h : Pair w0 w Z p q n i cs) : ∀ j, Z j → w0.heap.size ≤ j ∧ j < w.heap.size := by
  obtain ⟨bf, bs, v, kf, F, S, Y, vB, vL, B, h⟩ := h
  exact h.z0
theorem Pair.below (h : Pair w0 w Z p q n i cs) : Below w0.heap.size w0 w := by
  obtain ⟨bf, bs, v, kf, F, S, Y, vB, vL, B, h⟩ := h
  exact h.below

theorem Pair.alike (h : Pair w0 w Z p q n i cs) (hn : n ≤ 65536) (hi : i ≤ 1048576) : Calls Try.prog 16 #[.pointer (some ⟨p, 0, none⟩), .pointer (some ⟨q, 0, none⟩)] w (TrueIs w) := by
  obtain ⟨bf, bs, v, kf, F, S, Y, vB, vL, B, h⟩ := h
  exact alike_any p bf bs v n kf F S cs Y q vB vL B w h.d h.r hn h.f32 h.s32 (by have := h.csle; omega) (fun x _ => h.agree x)

/-- Behind New and New. -/
theorem Pair.start {w1 w2 : World} (hd : NewDisk w n (.returned (.tuple #[.pointer (some ⟨p, 0, none⟩), .int .i64 0])) w1) (hb : Below w0.heap.size w0 w)
    (hr : ∃ vB Y, RefIs w2 Y q n vB (.slice none 0 0) (fun _ => zero32) [] ∧ (∀ j, Y j → ¬ refFoot q vB (.slice none 0 0) j) ∧ (∀ j, refFoot q vB (.slice none 0 0) j ∨ Y j → w1.heap.size ≤ j ∧ j < w2.heap.size) ∧ Below w1.heap.size w1 w2) :
    Pair w0 w2 (fun j => w.heap.size ≤ j ∧ j < w2.heap.size) p q n 0 [] := by
  obtain ⟨p', bf, bs, v, e, hd, hf, hb1⟩ := hd
  have ep : p = p' := by simpa using e
  subst ep
  obtain ⟨vB, Y, hr, hs, hy, hb2⟩ := hr
  have h0 := hb.size
  have h1 := hb1.size
  have h2 := hb2.size
  have hd2 : DiskIs w2 p bf bs v n 0 (fun _ => none) (fun _ => none) [] := hd.turned (Turned.of_below (S := fun _ => False) hb2) (fun _ _ h => h)
  refine ⟨bf, bs, v, 0, _, _, Y, vB, _, _, { d := hd2, r := hr, lays := Lays.start _, f32 := none32, s32 := none32, begin_ := fun _ => rfl, pos := fun c hc => (by cases hc), apart := fun j hj => ?_, ysep := hs, inZ := fun j hj => ?_, z0 := fun j hj => ⟨by omega, hj.2⟩, kfle := Nat.zero_le _, csle := Nat.zero_le _, below := (hb.trans (hb1.mono h0)).trans (hb2.mono (by omega)) }⟩
  · have l1 := hd.lt j hj
    exact ⟨fun h => by have := (hy j (.inl h)).1; omega, fun h => by have := (hy j (.inr h)).1; omega⟩
  · rcases hj with hj | hj | hj
    · have l1 := hd.lt j hj
      have := hf j hj
      exact ⟨this, by omega⟩
    · have := hy j (.inl hj); exact ⟨by omega, this.2⟩
    · have := hy j (.inr hj); exact ⟨by omega, this.2⟩

/-! ### one call of each -/
/-- Behind the program's call, ahead of the reference's. -/
def Mid (w0 w : World) (Z : Nat → Prop) (p q n i : Nat) (cs cs' : List CallM) : Prop :=
  ∃ bf bs v kf F S Y vB vL B, DiskIs w p bf bs v n kf F S cs' ∧ RefIs w Y q n vB vL B cs ∧ Lays F S cs' ∧ Blocks32 F ∧ Blocks32 S ∧ (∀ x, B x = (F x).getD zero32) ∧ (∀ c ∈ cs', c.sync = false → 0 ≤ c.n ∧ c.n < n) ∧
    (∀ j, foot p bf bs v j → ¬ refFoot q vB vL j ∧ ¬ Y j) ∧ (∀ j, Y j → ¬ refFoot q vB vL j) ∧ (∀ j, foot p bf bs v j ∨ refFoot q vB vL j ∨ Y j → Z j) ∧ (∀ j, Z j → w0.heap.size ≤ j ∧ j < w.heap.size) ∧ kf ≤ 64 * i ∧ cs.length ≤ i ∧ cs'.length ≤ i + 1 ∧ Below w0.heap.size w0 w

theorem Pair.step1 (h : PairX w0 w Z p q n i cs bf bs v kf F S Y vB vL B) {w1 : World} {S' : Int → Option (List UInt8)} {cs' : List CallM} {r : Int} {e : Ending} (hst : Step w p bf bs v n kf F S' cs' r e w1) (hl : Lays F S' cs') (hs : Blocks32 S') (hp : ∀ c ∈ cs', c.sync = false → 0 ≤ c.n ∧ c.n < n) (hlen : cs'.length ≤ i + 1) :
    e = .returned (.int .i64 r) ∧ Mid w0 w1 (fun j => Z j ∨ (w.heap.size ≤ j ∧ j < w1.heap.size)) p q n i cs cs' ∧ Turned Z w w1 := by
  obtain ⟨rfl, v', hd, hv, ht⟩ := hst
  have hsz := ht.size
  have hb0 := h.below.size
  have hft : ∀ j, foot p bf bs v' j → foot p bf bs v j ∨ w.heap.size ≤ j := fun j hj => by
    rcases hj with hj | hj | hj | hj
    · exact .inl (.inl hj)
    · exact .inl (.inr (.inl hj))
    · exact .inl (.inr (.inr (.inl hj)))
    · rcases hv with hv | ⟨g, hg, hlt⟩
      · exact .inl (.inr (.inr (.inr (by rw [← hv]; exact hj))))
      · rw [hg] at hj
        injection hj with hj
        exact .inr (by omega)
  have rlt : ∀ j, refFoot q vB vL j ∨ Y j → j < w.heap.size := fun j hj => (h.z0 j (h.inZ j (.inr hj))).2
  have hr1 : RefIs w1 Y q n vB vL B cs := h.r.turned ht (fun j hj hk => (h.apart j hk).1 hj) (fun j hj hk => (h.apart j hk).2 hj)
  refine ⟨rfl, ⟨bf, bs, v', kf, F, S', Y, vB, vL, B, hd, hr1, hl, h.f32, hs, h.begin_, hp, fun j hj => ?_, h.ysep, fun j hj => ?_, fun j hj => ?_, h.kfle, h.csle, hlen, ?_⟩, ht.more (fun j hj => h.inZ j (.inl hj))⟩
  · rcases hft j hj with hj | hj
    · exact h.apart j hj
    · exact ⟨fun hk => by have := rlt j (.inl hk); omega, fun hk => by have := rlt j (.inr hk); omega⟩
  · rcases hj with hj | hj | hj
    · rcases hft j hj with hk | hk
      · exact .inl (h.inZ j (.inl hk))
      · exact .inr ⟨hk, hd.lt j hj⟩
    · exact .inl (h.inZ j (.inr (.inl hj)))
    · exact .inl (h.inZ j (.inr (.inr hj)))
  · rcases hj with hj | hj
    · have := h.z0 j hj; exact ⟨this.1, by omega⟩
    · exact ⟨by omega, hj.2⟩
  · exact h.below.trans (ht.below h.below.size (fun j hj => (h.z0 j (h.inZ j (.inl hj))).1))

theorem Mid.step2 {cs' : List CallM} {w2 : World} {Y' : Nat → Prop} {vL' : Value} (hd : DiskIs w p bf bs v n kf F S cs') (hr : RefIs w Y q n vB vL B cs) (hl : Lays F S cs') (hf : Blocks32 F) (hs : Blocks32 S) (hB : ∀ x, B x = (F x).getD zero32) (hp : ∀ c ∈ cs', c.sync = false → 0 ≤ c.n ∧ c.n < n)
    (ha : ∀ j, foot p bf bs v j → ¬ refFoot q vB vL j ∧ ¬ Y j) (hz : ∀ j, foot p bf bs v j ∨ refFoot q vB vL j ∨ Y j → Z j) (h0 : ∀ j, Z j → w0.heap.size ≤ j ∧ j < w.heap.size) (hk : kf ≤ 64 * i) (hlen : cs'.length ≤ i + 1) (hb : Below w0.heap.size w0 w)
    (hr2 : RefIs w2 Y' q n vB vL' B cs') (hv : vL'.ownBlock = vL.ownBlock ∨ ∃ g, vL'.ownBlock = some g ∧ w.heap.size ≤ g) (ht : Turned (refFoot q vB vL) w w2) (hY : ∀ j, Y' j → Y j ∨ w.heap.size ≤ j) (hsep : ∀ j, Y' j → ¬ refFoot q vB vL' j) (hYlt : ∀ j, Y' j → j < w2.heap.size) :
    Pair w0 w2 (fun j => Z j ∨ (w.heap.size ≤ j ∧ j < w2.heap.size)) p q n (i + 1) cs' ∧ Turned Z w w2 := by
  have _ := hr
  have hsz := ht.size
  have hb0 := hb.size
  have hft : ∀ j, refFoot q vB vL' j → refFoot q vB vL j ∨ w.heap.size ≤ j := fun j hj => by
    rcases hj with hj | hj | hj
    · exact .inl (.inl hj)
    · exact .inl (.inr (.inl hj))
    · rcases hv with hv | ⟨g, hg, hlt⟩
      · exact .inl (.inr (.inr (by rw [← hv]; exact hj)))
      · rw [hg] at hj
        injection hj with hj
        exact .inr (by omega)
  have rlt : ∀ j, refFoot q vB vL' j → j < w2.heap.size := fun j hj => by
    obtain ⟨hbox, ⟨bs, hB1, _⟩, ⟨rows, hL1, _⟩⟩ := hr2
    rcases hj with hj | hj | hj
    · rw [hj]; exact lt_of_some hbox
    · exact (hB1.lt j hj).2
    · exact (hL1.lt j hj).2
  refine ⟨⟨bf, bs, v, kf, F, S, Y', vB, vL', B, { d := hd.turned ht (fun j hj hk => (ha j hj).1 hk), r := hr2, lays := hl, f32 := hf, s32 := hs, begin_ := hB, pos := hp, apart := fun j hj => ?_, ysep := hsep, inZ := fun j hj => ?_, z0 := fun j hj => ?_, kfle := by omega, csle := hlen, below := hb.trans (ht.below hb.size (fun j hj => (h0 j (hz j (.inr (.inl hj)))).1)) }⟩, ht.more (fun j hj => hz j (.inr (.inl hj)))⟩
  · have hlt := hd.lt j hj
    exact ⟨fun hk => (hft j hk).elim (fun h => (ha j hj).1 h) (fun h => by omega), fun hk => (hY j hk).elim (fun h => (ha j hj).2 h) (fun h => by omega)⟩
  · rcases hj with hj | hj | hj
    · exact .inl (hz j (.inl hj))
    · rcases hft j hj with hk | hk
      · exact .inl (hz j (.inr (.inl hk)))
      · exact .inr ⟨hk, rlt j hj⟩
    · rcases hY j hj with hk | hk
      · exact .inl (hz j (.inr (.inr hk)))
      · exact .inr ⟨hk, hYlt j hj⟩
  · rcases hj with hj | hj
    · have := h0 j hj; exact ⟨this.1, by omega⟩
    · exact ⟨by omega, hj.2⟩
end
end Go.Proofs.Ytficckhhlhcogaa

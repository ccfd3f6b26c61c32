/-
  The two disks' calls of Write, Sync and Cut, one behind the other. Conditions: the two lie in memory as Pair says; the bytes lie outside of them.
-/
import Derived.Test.YtficckhhlhcogaaPair
namespace Go.Proofs.Ytficckhhlhcogaa
open Go.RowKit Go.Maps

section
variable {w0 w : World} {Z : Nat → Prop} {p q n i : Nat} {cs : List CallM}

theorem pos_wCs {x : Int} {l : List UInt8} (h : ∀ c ∈ cs, c.sync = false → 0 ≤ c.n ∧ c.n < n) : ∀ c ∈ wCs n cs x l, c.sync = false → 0 ≤ c.n ∧ c.n < n := by
  intro c hc hs
  unfold wCs at hc
  split at hc
  · rename_i hg
    rcases List.mem_append.1 hc with hc | hc
    · exact h c hc hs
    · have e : c = ⟨false, x, l⟩ := by simpa using hc
      subst e
      exact ⟨hg.1, hg.2.1⟩
  · exact h c hc hs

def Wrote1 (w0 w : World) (Z : Nat → Prop) (p q n i : Nat) (cs cs' : List CallM) (r : Int) (e : Ending) (w1 : World) : Prop :=
  e = .returned (.int .i64 r) ∧ ∃ Z1, Mid w0 w1 Z1 p q n i cs cs' ∧ Turned Z w w1 ∧ ∀ j, Z1 j → Z j ∨ w.heap.size ≤ j
def Wrote2 (w0 w : World) (Z : Nat → Prop) (p q n i : Nat) (cs' : List CallM) (r : Int) (e : Ending) (w1 : World) : Prop :=
  e = .returned (.int .i64 r) ∧ ∃ Z1, Pair w0 w1 Z1 p q n (i + 1) cs' ∧ Turned Z w w1 ∧ ∀ j, Z1 j → Z j ∨ w.heap.size ≤ j

theorem pair_write1 (h : Pair w0 w Z p q n i cs) (hn : n ≤ 65536) (hi : i ≤ 1048576) (x : Int) (l : List UInt8) (A : Option Addr) (cap : Nat) (hb : BytesAt w A l) (hcap : l.length ≤ cap) (hA : 0 < l.length → ∀ g o, A = some ⟨g, o, none⟩ → ¬ Z g) :
    Calls Try.prog 10 #[.pointer (some ⟨p, 0, none⟩), .int .i64 x, .slice A l.length cap] w (Wrote1 w0 w Z p q n i cs (wCs n cs x l) (wCode n x l)) := by
  obtain ⟨bf, bs, v, kf, F, S, Y, vB, vL, B, h⟩ := h
  refine (write_any p bf bs v n kf F S cs x l A cap w h.d (by have := h.csle; omega) hn hb hcap (fun hl g o e hf => hA hl g o e (h.inZ g (.inl hf)))).mono fun e w1 hst => ?_
  obtain ⟨he, hm, ht⟩ := Pair.step1 h hst (h.lays.step h.f32 h.s32) (blocks32_wS h.s32) (pos_wCs h.pos) (by have := length_wCs (n := n) (cs := cs) (x := x) (l := l); have := h.csle; omega)
  exact ⟨he, _, hm, ht, fun j hj => hj.imp id (fun h => h.1)⟩

theorem pair_sync1 (h : Pair w0 w Z p q n i cs) (hi : i ≤ 1048576) :
    Calls Try.prog 12 #[.pointer (some ⟨p, 0, none⟩)] w (Wrote1 w0 w Z p q n i cs (cs ++ [syncM]) 0) := by
  obtain ⟨bf, bs, v, kf, F, S, Y, vB, vL, B, h⟩ := h
  refine (sync_step p bf bs v n kf F S cs w h.d (by have := h.csle; omega)).mono fun e w1 hst => ?_
  obtain ⟨he, hm, ht⟩ := Pair.step1 h hst h.lays.sync h.s32 (fun c hc hs => by
    rcases List.mem_append.1 hc with hc | hc
    · exact h.pos c hc hs
    · have e : c = syncM := by simpa using hc
      subst e; cases hs) (by have := h.csle; simp; omega)
  exact ⟨he, _, hm, ht, fun j hj => hj.imp id (fun h => h.1)⟩

theorem pair_write2 {x : Int} {l : List UInt8} (h : Mid w0 w Z p q n i cs (wCs n cs x l)) (hn : n ≤ 65536) (hi : i ≤ 1048576) (A : Option Addr) (cap : Nat) (hb : BytesAt w A l) (hA : 0 < l.length → ∀ g o, A = some ⟨g, o, none⟩ → ¬ Z g) :
    Calls Try.prog 11 #[.pointer (some ⟨q, 0, none⟩), .int .i64 x, .slice A l.length cap] w (Wrote2 w0 w Z p q n i (wCs n cs x l) (wCode n x l)) := by
  obtain ⟨bf, bs, v, kf, F, S, Y, vB, vL, B, hd, hr, hl, hf, hs, hB, hp, ha, hy, hz, h0, hk, hlen, hlen', hbel⟩ := h
  have hbox := hr.1
  have c0 : w.cell? ⟨q, 0, none⟩ = some (.int .i64 (n : Int)) := cell_of_row _ _ 0 _ _ _ hbox
  have stay : ∀ r : Int, wCs n cs x l = cs → Wrote2 w0 w Z p q n i (wCs n cs x l) r (.returned (.int .i64 r)) w := fun r e => by
    obtain ⟨h1, h2⟩ := Mid.step2 hd hr hl hf hs hB hp ha hz h0 hk hlen' hbel (e.symm ▸ hr) (.inl rfl) (Turned.refl _ _) (fun j hj => .inl hj) hy (fun j hj => (h0 j (hz j (.inr (.inr hj)))).2)
    exact ⟨rfl, _, h1, h2, fun j hj => hj.imp id (fun h => h.1)⟩
  by_cases hx : 0 ≤ x ∧ x < n
  · by_cases h32 : l.length = 32
    · have hg : wGood n x l := ⟨hx.1, hx.2, h32⟩
      have ec : wCs n cs x l = cs ++ [⟨false, x, l⟩] := by unfold wCs; rw [if_pos hg]
      have er : wCode n x l = 0 := by unfold wCode; rw [if_pos hx, if_pos h32]
      obtain ⟨g, o, rfl, _⟩ := hb 0 (l[0]'(by omega)) (List.getElem?_eq_getElem (by omega))
      have hrg : w.rangeAt g o (bytesV l) := fun j u hu => by
        have hj : j < l.length := by have := (List.getElem?_eq_some_iff.1 hu).1; rwa [length_bytesV] at this
        obtain ⟨g', o', e, hc⟩ := hb j l[j] (List.getElem?_eq_getElem hj)
        injection e with e
        obtain ⟨rfl, rfl⟩ := (⟨(Addr.mk.inj e).1, (Addr.mk.inj e).2.1⟩ : g = g' ∧ o = o')
        rw [hc]
        simp only [bytesV, List.getElem?_map, List.getElem?_eq_getElem hj, Option.map_some] at hu
        exact hu
      have hA' := hA (by omega) g o rfl
      have hrw := ref_write Y q n vB vL B cs x l g o cap w hr hy (by omega) hx.1 hx.2 hn h32 hrg (fun e => hA' (hz g (.inr (.inl (.inr (.inr e))))))
      rw [h32]
      refine hrw.mono fun e w2 ⟨he, gy, hgy, ⟨C, hC⟩, vL', hr2, hv, ht, _⟩ => ?_
      rw [← ec] at hr2
      have hsz := ht.size
      have hgl := lt_of_some hC
      have q1 : ∀ j, (Y j ∨ j = gy) → j < w2.heap.size := fun j hj => by
        rcases hj with hj | hj
        · have := (h0 j (hz j (.inr (.inr hj)))).2; omega
        · rw [hj]; exact hgl
      have q2 : ∀ j, (Y j ∨ j = gy) → ¬ refFoot q vB vL' j := fun j hj hf2 => by
        obtain ⟨hbox2, ⟨bs2, hB2, _⟩, ⟨rows2, hL2, _⟩⟩ := hr2
        rcases hj with hj | hj
        · have hjl := (h0 j (hz j (.inr (.inr hj)))).2
          rcases hf2 with hf2 | hf2 | hf2
          · exact hy j hj (.inl hf2)
          · exact hy j hj (.inr (.inl hf2))
          · rcases hv with hv | ⟨g2, hg2, hlt⟩
            · exact hy j hj (.inr (.inr (by rw [← hv]; exact hf2)))
            · rw [hg2] at hf2
              injection hf2 with hf2
              omega
        · subst hj
          rcases hf2 with hf2 | hf2 | hf2
          · rw [hf2] at hgy
            have := lt_of_some hbox
            omega
          · exact own_ne hB2 hC (by decide) hf2
          · exact own_ne hL2 hC (by decide) hf2
      obtain ⟨h1, h2⟩ := Mid.step2 hd hr hl hf hs hB hp ha hz h0 hk hlen' hbel hr2 hv ht (fun j hj => hj.imp id (fun e => by rw [e]; exact hgy)) q2 q1
      exact ⟨by rw [he, er], _, h1, h2, fun j hj => hj.imp id (fun h => h.1)⟩
    · have hg : ¬ wGood n x l := fun hh => h32 hh.2.2
      have er : wCode n x l = 1 := by unfold wCode; rw [if_pos hx, if_neg h32]
      have ec : wCs n cs x l = cs := by unfold wCs; rw [if_neg hg]
      refine (ref_write_len q n x A l.length cap w c0 hx.1 hx.2 h32).mono fun e w2 ⟨he, hw⟩ => ?_
      subst hw; rw [he, er]
      exact stay 1 ec
  · have hg : ¬ wGood n x l := fun hh => hx ⟨hh.1, hh.2.1⟩
    have er : wCode n x l = 21 := by unfold wCode; rw [if_neg hx]
    have ec : wCs n cs x l = cs := by unfold wCs; rw [if_neg hg]
    refine (ref_write_out q n x _ w c0 (by omega)).mono fun e w2 ⟨he, hw⟩ => ?_
    subst hw; rw [he, er]
    exact stay 21 ec

theorem pair_sync2 (h : Mid w0 w Z p q n i cs (cs ++ [syncM])) (hi : i ≤ 1048576) :
    Calls Try.prog 13 #[.pointer (some ⟨q, 0, none⟩)] w (Wrote2 w0 w Z p q n i (cs ++ [syncM]) 0) := by
  obtain ⟨bf, bs, v, kf, F, S, Y, vB, vL, B, hd, hr, hl, hf, hs, hB, hp, ha, hy, hz, h0, hk, hlen, hlen', hbel⟩ := h
  refine (ref_sync Y q n vB vL B cs w hr hy (by omega)).mono fun e w2 ⟨he, vL', hr2, hv, ht, _⟩ => ?_
  have q2 : ∀ j, Y j → ¬ refFoot q vB vL' j := fun j hj hf2 => by
    rcases hf2 with hf2 | hf2 | hf2
    · exact hy j hj (.inl hf2)
    · exact hy j hj (.inr (.inl hf2))
    · rcases hv with hv | ⟨g, hg, hlt⟩
      · exact hy j hj (.inr (.inr (by rw [← hv]; exact hf2)))
      · rw [hg] at hf2
        injection hf2 with hf2
        have := (h0 j (hz j (.inr (.inr hj)))).2
        omega
  obtain ⟨h1, h2⟩ := Mid.step2 hd hr hl hf hs hB hp ha hz h0 hk hlen' hbel hr2 hv ht (fun j hj => .inl hj) q2 (fun j hj => by have := (h0 j (hz j (.inr (.inr hj)))).2; have := ht.size; omega)
  exact ⟨he, _, h1, h2, fun j hj => hj.imp id (fun h => h.1)⟩

/-- The two disks behind a Cut of the first. -/
def CutM (w0 w : World) (Z : Nat → Prop) (p q px n i : Nat) (cs : List CallM) (at_ : Int) (ks : List Bool) (torn : Int) : Prop :=
  ∃ bf bs v kf F S Y vB vL B, PairX w0 w Z p q n i cs bf bs v kf F S Y vB vL B ∧ ∃ k bf' bs' v', SyncAt (cs.take (red at_ (cs.length + 1))) k ∧ DiskIs w px bf' bs' v' n (kf + cs.length) (cutF F (cs.take (red at_ (cs.length + 1))) k ks torn) (fun _ => none) [] ∧ (∀ j, foot px bf' bs' v' j → w0.heap.size ≤ j ∧ ¬ Z j)

theorem pair_cut1 (h : Pair w0 w Z p q n i cs) (hi : i ≤ 65536) (at_ torn : Int) (K : Option Addr) (kcap : Nat) (ks : List Bool) (hat : (Lit.int .i64 at_).wf = true) (htorn : (Lit.int .i64 torn).wf = true) (hks : BoolsAt w K ks) (hkl : ks.length ≤ 9223372036854775807) :
    Calls Try.prog 14 #[.pointer (some ⟨p, 0, none⟩), .int .i64 at_, .slice K ks.length kcap, .int .i64 torn] w fun e w1 => ∃ px, e = .returned (.pointer (some ⟨px, 0, none⟩)) ∧ Below w.heap.size w w1 ∧ CutM w0 w1 Z p q px n i cs at_ ks torn := by
  obtain ⟨bf, bs, v, kf, F, S, Y, vB, vL, B, h⟩ := h
  have h1 := h.kfle
  have h2 := h.csle
  refine (cut_in p bf bs v n kf F S cs at_ torn K kcap ks w h.d h.f32 (by omega) (by omega) hat htorn hks hkl).mono fun e w1 ⟨k, px, bf', bs', v', hsy, he, hd', hft, hb⟩ => ?_
  have hb0 := h.below.size
  exact ⟨px, he, hb, bf, bs, v, kf, F, S, Y, vB, vL, B, h.turned (Turned.of_below (S := fun _ => False) hb) (fun _ h => h.elim), k, bf', bs', v', hsy, hd', fun j hj => ⟨by have := hft j hj; omega, fun hz => by have := hft j hj; have := (h.z0 j hz).2; omega⟩⟩

theorem pair_cut2 {px : Nat} {at_ torn : Int} {ks : List Bool} (h : CutM w0 w Z p q px n i cs at_ ks torn) (hn : n ≤ 65536) (hi : i ≤ 64) (K : Option Addr) (kcap : Nat) (hat : (Lit.int .i64 at_).wf = true) (htorn : (Lit.int .i64 torn).wf = true) (hks : BoolsAt w K ks) (hkl : ks.length ≤ 9223372036854775807) :
    Calls Try.prog 15 #[.pointer (some ⟨q, 0, none⟩), .int .i64 at_, .slice K ks.length kcap, .int .i64 torn] w fun e w1 => ∃ py, e = .returned (.pointer (some ⟨py, 0, none⟩)) ∧ Below w.heap.size w w1 ∧ Pair w0 w1 Z p q n i cs ∧ ∃ Z1, Pair w0 w1 Z1 px py n (i + 1) [] ∧ ∀ j, Z1 j → w0.heap.size ≤ j := by
  obtain ⟨bf, bs, v, kf, F, S, Y, vB, vL, B, h, k, bf', bs', v', hsy, hd', hft⟩ := h
  have h1 := h.kfle
  have h2 := h.csle
  obtain ⟨l, el⟩ : ∃ l, l = cs.take (red at_ (cs.length + 1)) := ⟨_, rfl⟩
  rw [← el] at hsy hd'
  obtain ⟨size, esz⟩ : ∃ size : Nat → Nat, ∀ j : Nat, size j = if (j : Int) = lastKept l (safeTo l l.length) ks l.length then red torn 33 else 32 := ⟨_, fun _ => rfl⟩
  refine (ref_cut Y q n vB vL B cs w h.r at_ torn K kcap ks hn (by omega) h.pos hat htorn hks hkl (fun j hj => (h.z0 j (h.inZ j (.inr (.inr hj)))).2) h.ysep l (safeTo l l.length) el rfl size esz).mono fun e w1 ⟨py, vBy, Yn, he, hr1, hsep, hYn, hfy, hYl, hb⟩ => ?_
  have hs1 := hb.size
  have hb0 := h.below.size
  have hsafe := safe_of hsy
  have hok := h.d.2.2.2.2.2
  have hlm : ∀ c ∈ l, c.ok := fun c hc => hok c (List.mem_of_mem_take (by rw [← el]; exact hc))
  have hkp : ∀ c ∈ keepTo l (safeTo l l.length) ks l.length, c ∈ l ∧ c.sync = false := keepTo_mem l _ ks l.length (Nat.le_refl _)
  have hB2 : ∀ x, (fun x => rdTo B (tornTo B (keepTo l (safeTo l l.length) ks l.length) size (keepTo l (safeTo l l.length) ks l.length).length) x (tornTo B (keepTo l (safeTo l l.length) ks l.length) size (keepTo l (safeTo l l.length) ks l.length).length).length) x = (cutF F l k ks torn x).getD zero32 := fun x => by
    show rdTo B _ x _ = _
    rw [rdTo_torn h.begin_ (fun c hc => (hkp c hc).2) size _ (Nat.le_refl _) x, ← cut_same F hsy ks torn]
    have e2 : size = fun (i : Nat) => if (i : Int) = lastKept l (k - 1) ks l.length then red torn 33 else 32 := by
      funext j
      rw [esz, hsafe]
    rw [e2, hsafe]
  have hF2 : Blocks32 (cutF F l k ks torn) := by
    rw [← cut_same F hsy ks torn]
    refine blocks32_layTo h.f32 (fun c hc => hlm c ?_) (fun j => ?_) _ (Nat.le_refl _)
    · rw [← hsafe] at hc
      exact (hkp c hc).1
    · show (if _ then red torn 33 else 32) ≤ 32
      have := red_lt torn 33 (by omega)
      split <;> omega
  have hd1 := hd'.turned (Turned.of_below (S := fun _ => False) hb) (fun _ _ h => h)
  have flt := hd'.lt
  obtain ⟨hboxy, ⟨by_, hBy, _⟩, _⟩ := id hr1
  refine ⟨py, he, hb, ⟨bf, bs, v, kf, F, S, Y, vB, vL, B, h.turned (Turned.of_below (S := fun _ => False) hb) (fun _ h => h.elim)⟩, fun j => foot px bf' bs' v' j ∨ refFoot py vBy (.slice none 0 0) j ∨ Yn j, ⟨bf', bs', v', kf + cs.length, _, _, Yn, vBy, _, _, { d := hd1, r := hr1, lays := Lays.start _, f32 := hF2, s32 := none32, begin_ := hB2, pos := fun c hc => (by cases hc), apart := fun j hj => ⟨fun hk => ?_, fun hk => ?_⟩, ysep := hsep, inZ := fun j hj => hj, z0 := fun j hj => ?_, kfle := by omega, csle := by simp, below := h.below.trans (hb.mono hb0) }⟩, fun j hj => ?_⟩
  · have := hfy j hk; have := flt j hj; omega
  · rcases hYn j hk with hk | hk
    · exact (hft j hj).2 (h.inZ j (.inr (.inr hk)))
    · have := flt j hj; omega
  · rcases hj with hj | hj | hj
    · exact ⟨(hft j hj).1, by have := flt j hj; omega⟩
    · refine ⟨by have := hfy j hj; omega, ?_⟩
      rcases hj with hj | hj | hj
      · rw [hj]; exact lt_of_some hboxy
      · exact (hBy.lt j hj).2
      · cases hj
    · refine ⟨?_, hYl j hj⟩
      rcases hYn j hj with hk | hk
      · exact (h.z0 j (h.inZ j (.inr (.inr hk)))).1
      · omega
  · rcases hj with hj | hj | hj
    · exact (hft j hj).1
    · have := hfy j hj; omega
    · rcases hYn j hj with hk | hk
      · exact (h.z0 j (h.inZ j (.inr (.inr hk)))).1
      · omega
end
end Go.Proofs.Ytficckhhlhcogaa

/-
  The program's disk and journal beside the document's answer's: what each call of either makes of the two. Conditions: all four lie in memory, apart.
-/
import Derived.Test.YtpfdlcogldbocaaJwith
import Derived.Test.YtpfdlcogldbocaaJref4
import Derived.Test.YtpfdlcogldbocaaJref6
namespace Go.Proofs.Ytpfdlcogldbocaa
open Go.RowKit Go.Deep Go.Maps

def PosIn (cs : List CallM) : Prop := ∀ c ∈ cs, c.sync = false → 0 ≤ c.n ∧ c.n < ((12 : Nat) : Int)
theorem PosIn.of_within {f k : Nat} {cs : List CallM} (hfk : f + k ≤ 12) (h : Within f k cs) : PosIn cs := fun c hc hs => by
  have := h c hc hs
  omega
theorem PosIn.append {a b : List CallM} (ha : PosIn a) (hb : PosIn b) : PosIn (a ++ b) := fun c h hs => (List.mem_append.1 h).elim (fun h => ha c h hs) (fun h => hb c h hs)

/-- The two disks. -/
structure Disks (w0 w : World) (F : Int → Option (List UInt8)) (cs : List CallM) (m p q : Nat) (Z Y : Nat → Prop) : Prop where
  d : Dk w Z p 12 F cs m
  r : Rk w Y q 12 F cs
  pos : PosIn cs
  dis : ∀ j, Z j → ¬ Y j
  ge : ∀ j, Z j ∨ Y j → w0.heap.size ≤ j
  below : Below w0.heap.size w0 w
/-- The two disks and journals; the program's may be one call ahead. -/
structure Play (w0 w : World) (f k : Nat) (F : Int → Option (List UInt8)) (cs csr : List CallM) (ls lsr : List (List UInt8)) (m p pj g q kj : Nat) (Z Y YJ : Nat → Prop) : Prop where
  j : JS w Z pj g p 12 f k F cs ls m
  r : Rk w Y q 12 F csr
  rj : RefJ w YJ kj q f k lsr
  pos : PosIn cs
  dA : ∀ j, Z j ∨ j = pj ∨ j = g → ¬ Y j ∧ ¬ YJ j
  dY : ∀ j, YJ j → ¬ Y j
  ge : ∀ j, (Z j ∨ j = pj ∨ j = g) ∨ Y j ∨ YJ j → w0.heap.size ≤ j
  below : Below w0.heap.size w0 w

section
variable {w0 w w1 : World} {f k : Nat} {F : Int → Option (List UInt8)} {cs csr : List CallM} {ls lsr : List (List UInt8)} {m p pj g q kj : Nat} {Z Y YJ : Nat → Prop}
theorem Rk.ylt {Z : Nat → Prop} {n : Nat} (h : Rk w Z q n F cs) : ∀ j, Z j → j < w.heap.size := h.zlt
theorem Disks.more (h : Disks w0 w F cs m p q Z Y) {m' : Nat} (hm : m ≤ m') : Disks w0 w F cs m' p q Z Y := ⟨h.d.more hm, h.r, h.pos, h.dis, h.ge, h.below⟩
theorem Disks.later (h : Disks w0 w F cs m p q Z Y) (hb : Below w.heap.size w w1) : Disks w0 w1 F cs m p q Z Y := ⟨h.d.below hb, h.r.below hb, h.pos, h.dis, h.ge, h.below.trans (hb.mono h.below.size)⟩
theorem Play.more (h : Play w0 w f k F cs csr ls lsr m p pj g q kj Z Y YJ) {m' : Nat} (hm : m ≤ m') : Play w0 w f k F cs csr ls lsr m' p pj g q kj Z Y YJ := ⟨h.j.more hm, h.r, h.rj, h.pos, h.dA, h.dY, h.ge, h.below⟩
theorem Play.later (h : Play w0 w f k F cs csr ls lsr m p pj g q kj Z Y YJ) (hb : Below w.heap.size w w1) : Play w0 w1 f k F cs csr ls lsr m p pj g q kj Z Y YJ := ⟨h.j.below hb, h.r.below hb, h.rj.below hb, h.pos, h.dA, h.dY, h.ge, h.below.trans (hb.mono h.below.size)⟩
theorem Play.disks (h : Play w0 w f k F cs cs ls lsr m p pj g q kj Z Y YJ) : Disks w0 w F cs m p q Z Y :=
  ⟨h.j.1, h.r, h.pos, fun j hj => (h.dA j (.inl hj)).1, fun j hj => h.ge j (hj.elim (fun h => .inl (.inl h)) (fun h => .inr (.inl h))), h.below⟩

/-- Behind a call of the program's journal. -/
theorem Play.prog (h : Play w0 w f k F cs csr ls lsr m p pj g q kj Z Y YJ) {cs' : List CallM} {ls' : List (List UInt8)} {m' : Nat} (hn : JSNext Z pj g p 12 f k F cs' ls' m' w w1) (hp : PosIn cs') :
    ∃ Z', Play w0 w1 f k F cs' csr ls' lsr m' p pj g q kj Z' Y YJ ∧ Turned (fun j => Z j ∨ j = pj ∨ j = g) w w1 := by
  obtain ⟨Z', hj, hz, ht⟩ := hn
  refine ⟨Z', ⟨hj, h.r.turned ht (fun j hy ha => (h.dA j ha).1 hy), h.rj.turned ht (fun j hy ha => (h.dA j ha).2 hy), hp, fun j hjj => ?_, h.dY, fun j hjj => ?_, turned_new h.below (fun j hjj => h.ge j (.inl hjj)) ht⟩, ht⟩
  · rcases hjj with hjj | hjj
    · rcases hz j hjj with hh | hh
      · exact h.dA j (.inl hh)
      · exact ⟨fun hy => by have := h.r.zlt j hy; omega, fun hy => by have := h.rj.ylt j hy; omega⟩
    · exact h.dA j (.inr hjj)
  · rcases hjj with (hjj | hjj) | hjj
    · rcases hz j hjj with hh | hh
      · exact h.ge j (.inl (.inl hh))
      · exact Nat.le_trans h.below.size hh
    · exact h.ge j (.inl (.inr hjj))
    · exact h.ge j (.inr hjj)
/-- .. of the document's. -/
theorem Play.ref (h : Play w0 w f k F cs csr ls lsr m p pj g q kj Z Y YJ) {csr' : List CallM} {lsr' : List (List UInt8)} {Y' YJ' : Nat → Prop} (hr : Rk w1 Y' q 12 F csr') (hrj : RefJ w1 YJ' kj q f k lsr') (hd : ∀ j, YJ' j → ¬ Y' j) (hY : ∀ j, Y' j → Y j ∨ w.heap.size ≤ j) (hYJ : ∀ j, YJ' j → YJ j ∨ w.heap.size ≤ j) (ht : Turned (fun j => Y j ∨ j = kj) w w1) :
    Play w0 w1 f k F cs csr' ls lsr' m p pj g q kj Z Y' YJ' := by
  have hkj : YJ kj := by
    obtain ⟨_, _, _, _, h3, _⟩ := h.rj
    exact h3
  refine ⟨h.j.turned ht (fun j ha hy => ?_), hr, hrj, h.pos, fun j ha => ⟨fun hy => ?_, fun hy => ?_⟩, hd, fun j hj => ?_, turned_new h.below (fun j hj => h.ge j (.inr (hj.imp id (fun e => by rw [e]; exact hkj)))) ht⟩
  · rcases hy with hy | hy
    · exact (h.dA j ha).1 hy
    · exact (h.dA j ha).2 (by rw [hy]; exact hkj)
  · rcases hY j hy with hh | hh
    · exact (h.dA j ha).1 hh
    · have := h.j.lt j ha
      omega
  · rcases hYJ j hy with hh | hh
    · exact (h.dA j ha).2 hh
    · have := h.j.lt j ha
      omega
  · have hs := h.below.size
    rcases hj with hj | hj | hj
    · exact h.ge j (.inl hj)
    · rcases hY j hj with hh | hh
      · exact h.ge j (.inr (.inl hh))
      · omega
    · rcases hYJ j hj with hh | hh
      · exact h.ge j (.inr (.inr hh))
      · omega

/-! ### Append -/
theorem play_append1 (h : Play w0 w f k F cs csr ls lsr m p pj g q kj Z Y YJ) (hm : m + k < 1073741824) (hfk : f + k ≤ 12) (A : Option Addr) (l : List UInt8) (cap : Nat) (hA : BytesAt w A l) (hr : RecOk l) (hroom : (frames ls).length + (frame l).length ≤ 32 * k) :
    Calls Try.prog 12 #[.pointer (some ⟨pj, 0, none⟩), .slice A l.length cap] w fun e w1 => e = .returned (.int .i64 0) ∧
      ∃ Z', Play w0 w1 f k F (cs ++ wto (nextOf (reg (con F cs) f k) l (frames ls).length) f ((frames ls).length / 32) (wrote (frames ls).length (frame l).length)) csr (ls ++ [l]) lsr (m + k) p pj g q kj Z' Y YJ ∧ Turned (fun j => Z j ∨ j = pj ∨ j = g) w w1 := by
  have h32 := con_all32 h.j.1.f32 h.j.1.ok
  have hl := length_reg h32 f k
  have hlf := length_frame l
  refine (js_append h.j hm (by omega) hfk A l cap hA hr hroom).mono fun e w1 ⟨he, hn⟩ => ⟨he, h.prog hn (h.pos.append (PosIn.of_within hfk (within_wto (k := k) (by omega) (by rw [length_nextOf (by omega), hl]) (by unfold wrote; omega))))⟩
theorem play_append2 {cs' : List CallM} {ls' : List (List UInt8)} (h : Play w0 w f k F cs' cs ls' ls m p pj g q kj Z Y YJ) (hok : ∀ c ∈ cs, c.ok) (hc : cs.length ≤ 1000000 - 65536) (hfk : f + k ≤ 12) (A : Option Addr) (l : List UInt8) (cap : Nat) (hA : BytesAt w A l) (hAw : 0 < l.length → ∀ g o, A = some ⟨g, o, none⟩ → g < w0.heap.size) (hr : RecOk l) (hroom : (frames ls).length + (frame l).length ≤ 32 * k) :
    Calls Try.prog 13 #[.pointer (some ⟨kj, 0, none⟩), .slice A l.length cap] w fun e w1 => e = .returned (.int .i64 0) ∧
      ∃ Y' YJ', Play w0 w1 f k F cs' (cs ++ wto (nextOf (reg (con F cs) f k) l (frames ls).length) f ((frames ls).length / 32) (wrote (frames ls).length (frame l).length)) ls' (ls ++ [l]) m p pj g q kj Z Y' YJ' ∧ Turned (fun j => Y j ∨ j = kj) w w1 := by
  have hkj : YJ kj := by
    obtain ⟨_, _, _, _, h3, _⟩ := h.rj
    exact h3
  refine (jref_append h.r h.rj h.dY h.j.1.f32 hok (by omega) (by omega) hfk A l cap hA (fun hl g o e => ⟨fun hy => ?_, fun hy => ?_⟩) hr hroom).mono fun e w1 ⟨he, YJ', Y', hrj, hr', hd, hYJ, hY, ht⟩ => ⟨he, Y', YJ', h.ref hr' hrj hd hY hYJ ht, ht⟩
  · have h1 := hAw hl g o e
    have h2 := h.ge g (.inr (.inl hy))
    omega
  · have h1 := hAw hl g o e
    have h2 := h.ge g (.inr (.inr (by rw [hy]; exact hkj)))
    omega

/-! ### Sync, Clear -/
theorem play_sync1 (h : Play w0 w f k F cs csr ls lsr m p pj g q kj Z Y YJ) (hm : m < 1073741824) :
    Calls Try.prog 14 #[.pointer (some ⟨pj, 0, none⟩)] w fun e w1 => e = .returned (.int .i64 0) ∧ ∃ Z', Play w0 w1 f k F (cs ++ [syncM]) csr ls lsr (m + 1) p pj g q kj Z' Y YJ :=
  (js_sync h.j hm).mono fun e w1 ⟨he, hn⟩ => by
    obtain ⟨Z', hp, _⟩ := h.prog hn (h.pos.append (fun c hc hs => by rw [List.mem_singleton] at hc; subst hc; cases hs))
    exact ⟨he, Z', hp⟩
theorem play_sync2 {cs' : List CallM} (h : Play w0 w f k F cs' cs ls lsr m p pj g q kj Z Y YJ) (hc : cs.length ≤ 1000000) :
    Calls Try.prog 15 #[.pointer (some ⟨q, 0, none⟩)] w fun e w1 => e = .returned (.int .i64 0) ∧ ∃ Y', Play w0 w1 f k F cs' (cs ++ [syncM]) ls lsr m p pj g q kj Z Y' YJ :=
  (rk_sync h.r (by omega)).mono fun e w1 ⟨he, hr, ht⟩ => ⟨he, _, h.ref hr (h.rj.turned ht (fun j hj hy => h.dY j hj hy)) (fun j hj hy => hy.elim (h.dY j hj) (fun hh => by have := h.rj.ylt j hj; omega)) (fun j hj => hj.imp id (fun h => h.1)) (fun j hj => .inl hj) (ht.widen (fun _ h => .inl h))⟩
theorem play_clear1 (h : Play w0 w f k F cs csr ls lsr m p pj g q kj Z Y YJ) (hm : m + k < 1073741824) (hfk : f + k ≤ 12) :
    Calls Try.prog 21 #[.pointer (some ⟨pj, 0, none⟩)] w fun e w1 => e = .returned (.int .i64 0) ∧ ∃ Z', Play w0 w1 f k F (cs ++ zto (con F cs) f k 0 k ++ [syncM]) csr [] lsr (m + k + 1) p pj g q kj Z' Y YJ :=
  (js_clear h.j hm (by omega) hfk).mono fun e w1 ⟨he, hn⟩ => by
    have h32 := con_all32 h.j.1.f32 h.j.1.ok
    obtain ⟨Z', hp, _⟩ := h.prog hn ((h.pos.append (PosIn.of_within hfk (within_zto h32 (by omega)))).append (fun c hc hs => by rw [List.mem_singleton] at hc; subst hc; cases hs))
    exact ⟨he, Z', hp⟩
theorem play_clear2 {cs' : List CallM} {ls' : List (List UInt8)} (h : Play w0 w f k F cs' cs ls' ls m p pj g q kj Z Y YJ) (hok : ∀ c ∈ cs, c.ok) (hc : cs.length ≤ 1000000 - 65536) (hfk : f + k ≤ 12) :
    Calls Try.prog 22 #[.pointer (some ⟨kj, 0, none⟩)] w fun e w1 => e = .returned (.int .i64 0) ∧ ∃ Y', Play w0 w1 f k F cs' (cs ++ zto (con F cs) f k 0 k ++ [syncM]) ls' [] m p pj g q kj Z Y' YJ :=
  (jref_clear h.r h.rj h.dY h.j.1.f32 hok (by omega) (by omega) hfk).mono fun e w1 ⟨he, hrj, ⟨Y', hr, hY⟩, ht⟩ => ⟨he, Y', h.ref hr hrj (fun j hj hy => (hY j hy).elim (h.dY j hj) (fun hh => by have := h.rj.ylt j hj; omega)) hY (fun j hj => .inl hj) ht⟩

/-! ### both opened -/
structure Half (w0 w : World) (f k : Nat) (F : Int → Option (List UInt8)) (cs cs' : List CallM) (ls : List (List UInt8)) (m p pj g q : Nat) (Z Y : Nat → Prop) : Prop where
  j : JS w Z pj g p 12 f k F cs' ls m
  r : Rk w Y q 12 F cs
  pos : PosIn cs'
  dA : ∀ j, Z j ∨ j = pj ∨ j = g → ¬ Y j
  ge : ∀ j, (Z j ∨ j = pj ∨ j = g) ∨ Y j → w0.heap.size ≤ j
  below : Below w0.heap.size w0 w
theorem play_open1 (h : Disks w0 w F cs m p q Z Y) (hm : m + k < 1073741824) (h1 : 1 ≤ k) (hfk : f + k ≤ 12) :
    Calls Try.prog 10 #[.pointer (some ⟨p, 0, none⟩), .int .i64 (f : Int), .int .i64 (k : Int)] w fun e w1 => ∃ pj g Z' ls u, e = .returned (.tuple #[.pointer (some ⟨pj, 0, none⟩), .int .i64 0]) ∧ IsScan (reg (con F cs) f k) ls u ∧
      Half w0 w1 f k F cs (openCs (con F cs) cs f k u) ls (m + k + 1) p pj g q Z' Y :=
  (js_open h.d f k h1 hm (by omega) hfk).mono fun e w1 ⟨pj, g, Z', ls, u, he, hs, hj, hn, hz, ht⟩ => by
    have h32 := con_all32 h.d.f32 h.d.ok
    have hsz := h.below.size
    refine ⟨pj, g, Z', ls, u, he, hs, hj, h.r.turned ht (fun j hy hz => h.dis j hz hy), ?_, fun j hj hy => ?_, fun j hj => ?_, turned_new h.below (fun j hj => h.ge j (.inl hj)) ht⟩
    · unfold openCs
      split
      · exact h.pos
      · exact (h.pos.append (PosIn.of_within hfk (within_zto h32 (by omega)))).append (fun c hc hs => by rw [List.mem_singleton] at hc; subst hc; cases hs)
    · have := h.r.zlt j hy
      rcases hj with hj | hj | hj
      · rcases hz j hj with hh | hh
        · exact h.dis j hh hy
        · omega
      · omega
      · omega
    · rcases hj with (hj | hj | hj) | hj
      · rcases hz j hj with hh | hh
        · exact h.ge j (.inl hh)
        · omega
      · omega
      · omega
      · exact h.ge j (.inr hj)
theorem play_open2 {ls : List (List UInt8)} {u : Nat} (h : Half w0 w f k F cs (openCs (con F cs) cs f k u) ls m p pj g q Z Y) (hs : IsScan (reg (con F cs) f k) ls u) (hok : ∀ c ∈ cs, c.ok) (hc : cs.length ≤ 1000000 - 65536) (h1 : 1 ≤ k) (hfk : f + k ≤ 12) :
    Calls Try.prog 11 #[.pointer (some ⟨q, 0, none⟩), .int .i64 (f : Int), .int .i64 (k : Int)] w fun e w1 => ∃ kj Y' YJ, e = .returned (.tuple #[.pointer (some ⟨kj, 0, none⟩), .int .i64 0]) ∧
      Play w0 w1 f k F (openCs (con F cs) cs f k u) (openCs (con F cs) cs f k u) ls ls m p pj g q kj Z Y' YJ :=
  (jref_open h.r h.j.1.f32 hok (by omega) (by omega) f k h1 hfk).mono fun e w1 ⟨kj, YJ, Y', ls', u', he, hs', hrj, hr, hYJ, hY, ht⟩ => by
    obtain ⟨rfl, rfl⟩ := hs'.unique hs
    have hsz := h.below.size
    refine ⟨kj, Y', YJ, he, h.j.turned ht (fun j ha hy => h.dA j ha hy), hr, hrj, h.pos, fun j ha => ⟨fun hy => ?_, fun hy => ?_⟩, fun j hj => (hYJ j hj).1, fun j hj => ?_, turned_new h.below (fun j hj => h.ge j (.inr hj)) ht⟩
    · have := h.j.lt j ha
      rcases hY j hy with hh | hh
      · exact h.dA j ha hh
      · omega
    · have := h.j.lt j ha
      have := (hYJ j hy).2
      omega
    · rcases hj with hj | hj | hj
      · exact h.ge j (.inl hj)
      · rcases hY j hj with hh | hh
        · exact h.ge j (.inr hh)
        · omega
      · have := (hYJ j hj).2
        omega

/-! ### others who write, and losses of power -/
structure DisksX (w0 w : World) (F F' : Int → Option (List UInt8)) (cs cs' : List CallM) (m p q : Nat) (Z Y : Nat → Prop) : Prop where
  d : Dk w Z p 12 F' cs' m
  r : Rk w Y q 12 F cs
  dis : ∀ j, Z j → ¬ Y j
  ge : ∀ j, Z j ∨ Y j → w0.heap.size ≤ j
  below : Below w0.heap.size w0 w
theorem DisksX.later {F' : Int → Option (List UInt8)} {cs' : List CallM} (h : DisksX w0 w F F' cs cs' m p q Z Y) (hb : Below w.heap.size w w1) : DisksX w0 w1 F F' cs cs' m p q Z Y := ⟨h.d.below hb, h.r.below hb, h.dis, h.ge, h.below.trans (hb.mono h.below.size)⟩
theorem disks_write1 (h : Disks w0 w F cs m p q Z Y) (hm : m < 1073741824) (x : Int) (l : List UInt8) (A : Option Addr) (cap n : Nat) (hn : n = l.length) (hb : BytesAt w A l) (hcap : n ≤ cap) (hA : 0 < l.length → ∀ g o, A = some ⟨g, o, none⟩ → g < w0.heap.size) :
    Calls Try.prog 16 #[.pointer (some ⟨p, 0, none⟩), .int .i64 x, .slice A n cap] w fun e w1 => e = .returned (.int .i64 (wCode 12 x l)) ∧ ∃ Z', DisksX w0 w1 F F cs (wCs 12 cs x l) (m + 1) p q Z' Y ∧ Turned Z w w1 := by
  refine (dk_write h.d hm (by omega) x l A cap n hn hb hcap (fun hl g o e hz => ?_)).mono fun e w1 ⟨he, hd, ht⟩ => ⟨he, grow Z w w1, ⟨hd, h.r.turned ht (fun j hy hz => h.dis j hz hy), fun j hj hy => ?_, fun j hj => ?_, turned_new h.below (fun j hj => h.ge j (.inl hj)) ht⟩, ht⟩
  · have h1 := hA hl g o e
    have h2 := h.ge g (.inl hz)
    omega
  · rcases hj with hj | hj
    · exact h.dis j hj hy
    · have := h.r.zlt j hy
      omega
  · have := h.below.size
    rcases hj with (hj | hj) | hj
    · exact h.ge j (.inl hj)
    · omega
    · exact h.ge j (.inr hj)
theorem disks_write2 {x : Int} {l : List UInt8} (h : DisksX w0 w F F cs (wCs 12 cs x l) m p q Z Y) (hp : PosIn cs) (hc : cs.length ≤ 1000000) (A : Option Addr) (cap n : Nat) (hn : n = l.length) (hb : BytesAt w A l) (hA : 0 < l.length → ∀ g o, A = some ⟨g, o, none⟩ → g < w0.heap.size) :
    Calls Try.prog 17 #[.pointer (some ⟨q, 0, none⟩), .int .i64 x, .slice A n cap] w fun e w1 => e = .returned (.int .i64 (wCode 12 x l)) ∧ ∃ Y', Disks w0 w1 F (wCs 12 cs x l) m p q Z Y' ∧ Turned Y w w1 := by
  refine (rk_write h.r (by omega) (by omega) x l A cap n hn hb (fun hl g o e hz => ?_)).mono fun e w1 ⟨he, hr, ht⟩ => ⟨he, grow Y w w1, ⟨h.d.turned ht (fun j hz hy => h.dis j hz hy), hr, pos_wCs hp, fun j hj hy => ?_, fun j hj => ?_, turned_new h.below (fun j hj => h.ge j (.inr hj)) ht⟩, ht⟩
  · have h1 := hA hl g o e
    have h2 := h.ge g (.inr hz)
    omega
  · rcases hy with hy | hy
    · exact h.dis j hj hy
    · have := h.d.zlt j hj
      omega
  · have := h.below.size
    rcases hj with hj | hj | hj
    · exact h.ge j (.inl hj)
    · exact h.ge j (.inr hj)
    · omega

theorem disks_cut1 (h : Disks w0 w F cs m p q Z Y) (hm : m ≤ 1000000) (torn : Int) (K : Option Addr) (kcap n : Nat) (ks : List Bool) (hn : n = ks.length) (htorn : (Lit.int .i64 torn).wf = true) (hks : BoolsAt w K ks) (hkl : ks.length ≤ 9223372036854775807) :
    Calls Try.prog 18 #[.pointer (some ⟨p, 0, none⟩), .int .i64 (cs.length : Int), .slice K n kcap, .int .i64 torn] w fun e w1 => ∃ px κ Z', e = .returned (.pointer (some ⟨px, 0, none⟩)) ∧ SyncAt cs κ ∧ DisksX w0 w1 F (cutF F cs κ ks torn) cs [] m px q Z' Y ∧ Below w.heap.size w w1 := by
  subst hn
  have hl := h.d.len
  have hwf : (Lit.int .i64 (cs.length : Int)).wf = true := by
    have h1 : (cs.length : Int) ≤ 1000000 := by omega
    have h0 : (0 : Int) ≤ (cs.length : Int) := by omega
    go_wf
  refine (dk_cut h.d (by omega) (cs.length : Int) torn K kcap ks hwf htorn hks hkl).mono fun e w1 ⟨px, κ, he, hs, hd, hb⟩ => ?_
  have hred : red (cs.length : Int) (cs.length + 1) = cs.length := by
    unfold red
    rw [if_neg (by omega)]
    simp
  rw [hred, List.take_length] at hs hd
  have hsz := h.below.size
  exact ⟨px, κ, _, he, hs, ⟨hd, h.r.below hb, fun j hj hy => by have := h.r.zlt j hy; omega, fun j hj => hj.elim (fun hj => by omega) (fun hj => h.ge j (.inr hj)), h.below.trans (hb.mono hsz)⟩, hb⟩
theorem disks_cut2 {px κ : Nat} {ks : List Bool} {torn : Int} (h : DisksX w0 w F (cutF F cs κ ks torn) cs [] m px q Z Y) (hF : Blocks32 F) (hok : ∀ c ∈ cs, c.ok) (hp : PosIn cs) (hc : cs.length ≤ 1000000) (hs : SyncAt cs κ) (K : Option Addr) (kcap n : Nat) (hn : n = ks.length) (htorn : (Lit.int .i64 torn).wf = true) (hks : BoolsAt w K ks) (hkl : ks.length ≤ 9223372036854775807) :
    Calls Try.prog 20 #[.pointer (some ⟨q, 0, none⟩), .int .i64 (cs.length : Int), .slice K n kcap, .int .i64 torn] w fun e w1 => ∃ py Y', e = .returned (.pointer (some ⟨py, 0, none⟩)) ∧ Disks w0 w1 (cutF F cs κ ks torn) [] m px py Z Y' ∧ Below w.heap.size w w1 := by
  subst hn
  have hwf : (Lit.int .i64 (cs.length : Int)).wf = true := by
    have h1 : (cs.length : Int) ≤ 1000000 := by omega
    have h0 : (0 : Int) ≤ (cs.length : Int) := by omega
    go_wf
  have hred : red (cs.length : Int) (cs.length + 1) = cs.length := by
    unfold red
    rw [if_neg (by omega)]
    simp
  have hcut := rk_cut h.r hF hok (by omega) (by omega) hp (cs.length : Int) torn K kcap ks hwf htorn hks hkl (k := κ) (by rw [hred, List.take_length]; exact hs)
  rw [hred, List.take_length] at hcut
  refine hcut.mono fun e w1 ⟨py, he, hr, hb⟩ => ?_
  have hsz := h.below.size
  refine ⟨py, _, he, ⟨h.d.below hb, hr, fun c hc => (by cases hc), fun j hj hy => ?_, fun j hj => ?_, h.below.trans (hb.mono hsz)⟩, hb⟩
  · rcases hy with hy | hy
    · exact h.dis j hj hy
    · have := h.d.zlt j hj
      omega
  · rcases hj with hj | hj | hj
    · exact h.ge j (.inl hj)
    · exact h.ge j (.inr hj)
    · omega
end
end Go.Proofs.Ytpfdlcogldbocaa

/-
  A script's calls on a region of noughts, as plain lists: what each call wrote, what was whole at each Sync, and what a loss of power leaves. No condition.
-/
import Derived.Test.YtpfdlcogldbocaaKeep
import Derived.Test.YtpfdlcogldbocaaJref5
import Derived.Test.YtpfdlcogldbocaaDk
namespace Go.Proofs.Ytpfdlcogldbocaa
open Go.RowKit Go.Maps

/-- The region's bytes when the first r records lie there. -/
def tex (ls : List (List UInt8)) (k r : Nat) : List UInt8 := frames (ls.take r) ++ List.replicate (32 * k - (frames (ls.take r)).length) 0
theorem length_tex {ls : List (List UInt8)} {k r : Nat} (h : (frames ls).length ≤ 32 * k) : (tex ls k r).length = 32 * k := by
  have := frames_take_le ls r
  unfold tex
  rw [List.length_append, List.length_replicate]
  omega
theorem tex_more {ls : List (List UInt8)} {l : List UInt8} {k r : Nat} (h : r ≤ ls.length) : tex (ls ++ [l]) k r = tex ls k r := by
  unfold tex
  rw [List.take_append_of_le_length h]
theorem tex_get {ls : List (List UInt8)} {k r s : Nat} (_hl : (frames ls).length ≤ 32 * k) (hrs : s ≤ r) {p : Nat} {u : UInt8} (hp : (tex ls k r)[p]? = some u) :
    ((tex ls k ls.length)[p]? = some u ∨ u = 0) ∧ (p < (frames (ls.take s)).length → (tex ls k ls.length)[p]? = some u) := by
  obtain ⟨a, ha⟩ := frames_take_pre ls (m := min r ls.length) (k := ls.length) (Nat.min_le_right _ _)
  rw [List.take_of_length_le (Nat.le_refl _), List.take_eq_take_min.symm] at ha
  obtain ⟨b, hb⟩ := frames_take_pre ls hrs
  have hall : tex ls k ls.length = frames ls ++ List.replicate (32 * k - (frames ls).length) 0 := by
    unfold tex
    rw [List.take_of_length_le (Nat.le_refl _)]
  have hin : p < (frames (ls.take r)).length → (tex ls k ls.length)[p]? = some u := fun h => by
    rw [hall, List.getElem?_append_left (by rw [ha, List.length_append]; omega), ha, List.getElem?_append_left h]
    unfold tex at hp
    rwa [List.getElem?_append_left h] at hp
  refine ⟨?_, fun h => hin (by rw [hb, List.length_append]; omega)⟩
  by_cases h : p < (frames (ls.take r)).length
  · exact .inl (hin h)
  · right
    unfold tex at hp
    rw [List.getElem?_append_right (by omega), List.getElem?_replicate] at hp
    split at hp
    · injection hp with hp
      exact hp.symm
    · cases hp

/-- What a script has done: rs tells of each call how many records there were. -/
structure Hist (F : Int → Option (List UInt8)) (f k : Nat) (cs : List CallM) (ls : List (List UInt8)) (rs : List Nat) : Prop where
  len : rs.length = cs.length
  rise : ∀ i j a b : Nat, i ≤ j → rs[i]? = some a → rs[j]? = some b → a ≤ b
  most : ∀ (i a : Nat), rs[i]? = some a → a ≤ ls.length
  write : ∀ (i r : Nat) (c : CallM), cs[i]? = some c → rs[i]? = some r → c.sync = false → c.bytes.length = 32 ∧ ∀ j, j < 32 → (f : Int) ≤ c.n → c.n < ((f + k : Nat) : Int) → c.bytes[j]? = (tex ls k r)[32 * (c.n.toNat - f) + j]?
  sync : ∀ (i r : Nat) (c : CallM), cs[i]? = some c → rs[i]? = some r → c.sync = true → reg (con F (cs.take (i + 1))) f k = tex ls k r
  now : reg (con F cs) f k = tex ls k ls.length
  fits : (frames ls).length ≤ 32 * k
  recs : ∀ l ∈ ls, RecOk l
  ok : ∀ c ∈ cs, c.ok

theorem Hist.start {F : Int → Option (List UInt8)} {f k : Nat} (h : reg (con F []) f k = List.replicate (32 * k) 0) : Hist F f k [] [] [] where
  len := rfl
  rise := fun i j a b _ h => by simp at h
  most := fun i a h => by simp at h
  write := fun i r c h => by simp at h
  sync := fun i r c h => by simp at h
  now := by rw [h]; simp [tex, frames]
  fits := by simp [frames]
  recs := fun l h => by cases h
  ok := fun c h => by cases h

/-- The calls of one step more, all with the same number of records. -/
theorem Hist.more {F : Int → Option (List UInt8)} {f k : Nat} {cs : List CallM} {ls : List (List UInt8)} {rs : List Nat} (h : Hist F f k cs ls rs) (ds : List CallM) (ls' : List (List UInt8)) (hls : ls' = ls ∨ ∃ l, ls' = ls ++ [l])
    (hw : ∀ c ∈ ds, c.sync = false → c.bytes.length = 32 ∧ ∀ j, j < 32 → (f : Int) ≤ c.n → c.n < ((f + k : Nat) : Int) → c.bytes[j]? = (tex ls' k ls'.length)[32 * (c.n.toNat - f) + j]?)
    (hs : ∀ (i : Nat) (c : CallM), ds[i]? = some c → c.sync = true → reg (con F (cs ++ ds.take (i + 1))) f k = tex ls' k ls'.length) (hn : reg (con F (cs ++ ds)) f k = tex ls' k ls'.length) (hf : (frames ls').length ≤ 32 * k) (hr : ∀ l ∈ ls', RecOk l) (hok : ∀ c ∈ ds, c.ok) :
    Hist F f k (cs ++ ds) ls' (rs ++ List.replicate ds.length ls'.length) := by
  have hle : ls.length ≤ ls'.length := by
    rcases hls with e | ⟨l, e⟩
    · rw [e]; exact Nat.le_refl _
    · rw [e, List.length_append]; omega
  have htex : ∀ r, r ≤ ls.length → tex ls' k r = tex ls k r := fun r hr => by
    rcases hls with e | ⟨l, e⟩
    · rw [e]
    · rw [e]; exact tex_more hr
  have hrs := h.len
  have old : ∀ i, i < cs.length → (rs ++ List.replicate ds.length ls'.length)[i]? = rs[i]? ∧ (cs ++ ds)[i]? = cs[i]? := fun i hi => ⟨List.getElem?_append_left (by omega), List.getElem?_append_left hi⟩
  have new : ∀ i (a : Nat), cs.length ≤ i → (rs ++ List.replicate ds.length ls'.length)[i]? = some a → a = ls'.length := fun i a hi ha => by
    rw [List.getElem?_append_right (by omega), List.getElem?_replicate] at ha
    split at ha
    · injection ha with ha
      exact ha.symm
    · cases ha
  have most' : ∀ (i a : Nat), (rs ++ List.replicate ds.length ls'.length)[i]? = some a → a ≤ ls'.length := fun i a ha => by
    by_cases hi : i < cs.length
    · rw [(old i hi).1] at ha
      exact Nat.le_trans (h.most i a ha) hle
    · rw [new i a (by omega) ha]
      exact Nat.le_refl _
  refine { len := by rw [List.length_append, List.length_append, List.length_replicate, hrs], rise := fun i j a b hij ha hb => ?_, most := most', write := fun i r c hc hr2 hsy => ?_, sync := fun i r c hc hr2 hsy => ?_, now := hn, fits := hf, recs := hr, ok := fun c hc => ?_ }
  · by_cases hj : j < cs.length
    · rw [(old j hj).1] at hb
      rw [(old i (by omega)).1] at ha
      exact h.rise i j a b hij ha hb
    · rw [new j b (by omega) hb]
      exact most' i a ha
  · by_cases hi : i < cs.length
    · rw [(old i hi).1] at hr2
      rw [(old i hi).2] at hc
      obtain ⟨h1, h2⟩ := h.write i r c hc hr2 hsy
      refine ⟨h1, fun j hj hx hx2 => ?_⟩
      rw [htex r (h.most i r hr2)]
      exact h2 j hj hx hx2
    · have e := new i r (by omega) hr2
      subst e
      rw [List.getElem?_append_right (by omega)] at hc
      exact hw c (List.mem_of_getElem? hc) hsy
  · by_cases hi : i < cs.length
    · rw [(old i hi).1] at hr2
      rw [(old i hi).2] at hc
      rw [htex r (h.most i r hr2), List.take_append_of_le_length (by omega)]
      exact h.sync i r c hc hr2 hsy
    · have e := new i r (by omega) hr2
      subst e
      rw [List.getElem?_append_right (by omega)] at hc
      have := hs (i - cs.length) c hc hsy
      rw [List.take_append, List.take_of_length_le (by omega), show i + 1 - cs.length = i - cs.length + 1 by omega]
      exact this
  · rcases List.mem_append.1 hc with hc | hc
    · exact h.ok c hc
    · exact hok c hc

theorem syncM_ok : syncM.ok := syncOk
theorem Hist.synced {F : Int → Option (List UInt8)} {f k : Nat} {cs : List CallM} {ls : List (List UInt8)} {rs : List Nat} (h : Hist F f k cs ls rs) : Hist F f k (cs ++ [syncM]) ls (rs ++ [ls.length]) := by
  have hnow : reg (con F (cs ++ [syncM])) f k = tex ls k ls.length := by rw [con_sync]; exact h.now
  exact h.more [syncM] ls (.inl rfl) (fun c hc hs => by rw [List.mem_singleton] at hc; subst hc; cases hs) (fun i c hc hs => by
    have hi : i = 0 := by have := (List.getElem?_eq_some_iff.1 hc).1; simp at this; omega
    subst hi
    exact hnow) hnow h.fits h.recs (fun c hc => by rw [List.mem_singleton] at hc; subst hc; exact syncM_ok)

theorem next_tex {ls : List (List UInt8)} {l : List UInt8} {k : Nat} (h : (frames ls).length + (frame l).length ≤ 32 * k) : nextOf (tex ls k ls.length) l (frames ls).length = tex (ls ++ [l]) k (ls ++ [l]).length := by
  unfold nextOf tex
  rw [List.take_of_length_le (Nat.le_refl _), List.take_of_length_le (Nat.le_refl _), frames_snoc, List.take_left']
  · congr 1
    rw [List.drop_append, List.drop_of_length_le (by omega), List.nil_append, List.drop_replicate, List.length_append]
    congr 1
    omega
  · rfl
theorem Hist.appended {F : Int → Option (List UInt8)} (hF : Blocks32 F) {f k : Nat} (hfk : f + k ≤ 65536) {cs : List CallM} {ls : List (List UInt8)} {rs : List Nat} (h : Hist F f k cs ls rs) {l : List UInt8} (hl : RecOk l) (hfit : (frames ls).length + (frame l).length ≤ 32 * k) :
    Hist F f k (cs ++ wto (nextOf (reg (con F cs) f k) l (frames ls).length) f ((frames ls).length / 32) (wrote (frames ls).length (frame l).length)) (ls ++ [l]) (rs ++ List.replicate (wrote (frames ls).length (frame l).length) (ls ++ [l]).length) := by
  have h32 := con_all32 hF h.ok
  have hm := length_frame l
  obtain ⟨u, eu⟩ : ∃ u, u = (frames ls).length := ⟨_, rfl⟩
  obtain ⟨m, em⟩ : ∃ m, m = (frame l).length := ⟨_, rfl⟩
  have hnx : nextOf (reg (con F cs) f k) l (frames ls).length = tex (ls ++ [l]) k (ls ++ [l]).length := by rw [h.now, next_tex hfit]
  have hfit2 : (frames (ls ++ [l])).length ≤ 32 * k := by rw [frames_snoc, List.length_append]; exact hfit
  have hlen := length_tex (r := (ls ++ [l]).length) hfit2
  rw [hnx]
  rw [← eu, ← em] at hfit ⊢
  rw [← em] at hm
  have hjt : u / 32 + wrote u m ≤ k := by unfold wrote; omega
  have hreg : reg (con F (cs ++ wto (tex (ls ++ [l]) k (ls ++ [l]).length) f (u / 32) (wrote u m))) f k = tex (ls ++ [l]) k (ls ++ [l]).length := by
    refine reg_wto hF h.ok hfk hlen hjt fun p hp => ?_
    rw [h.now]
    have hout : p < u ∨ u + m ≤ p := by
      unfold wrote at hp
      omega
    rw [← next_tex (by rw [← eu, ← em]; exact hfit), ← eu]
    unfold nextOf
    rw [← em]
    have htl := length_tex (ls := ls) (k := k) (r := ls.length) h.fits
    rcases hout with hp | hp
    · rw [List.append_assoc, List.getElem?_append_left (by rw [List.length_take]; omega), List.getElem?_take, if_pos hp]
    · rw [List.getElem?_append_right (by rw [List.length_append, List.length_take, ← em]; omega), List.getElem?_drop, List.length_append, List.length_take, ← em]
      congr 1
      omega
  have hok := wto_ok (b0 := u / 32) hfk hlen (wrote u m) hjt
  have := h.more (wto (tex (ls ++ [l]) k (ls ++ [l]).length) f (u / 32) (wrote u m)) (ls ++ [l]) (.inr ⟨l, rfl⟩) (fun c hc _ => ⟨(hok c hc).1.1, fun j hj hx hx2 => by
      have key : ∀ n, n ≤ wrote u m → ∀ c ∈ wto (tex (ls ++ [l]) k (ls ++ [l]).length) f (u / 32) n, ∃ i, c.n = ((f + i : Nat) : Int) ∧ c.bytes = ((tex (ls ++ [l]) k (ls ++ [l]).length).drop (32 * i)).take 32 := fun n => by
        induction n with
        | zero => intro _ c hc; cases hc
        | succ n ih =>
          intro hn c hc
          unfold wto at hc
          rcases List.mem_append.1 hc with hc | hc
          · exact ih (by omega) c hc
          · rw [List.mem_singleton] at hc
            subst hc
            exact ⟨_, rfl, rfl⟩
      obtain ⟨i, e1, e2⟩ := key _ (Nat.le_refl _) c hc
      rw [e1, e2, show (((f + i : Nat) : Int)).toNat - f = i by omega, List.getElem?_take, if_pos hj, List.getElem?_drop]⟩)
    (fun i c hc hs => by
      have := (hok c (List.mem_of_getElem? hc)).2.1
      rw [hs] at this
      cases this) hreg hfit2 (fun x hx => by
      rcases List.mem_append.1 hx with hx | hx
      · exact h.recs x hx
      · rw [List.mem_singleton] at hx
        subst hx
        exact hl) (fun c hc => (hok c hc).1)
  rwa [wto_len] at this

/-- WHAT A LOSS OF POWER LEAVES: each byte is the text's or a nought, and what was synced is whole. -/
theorem Hist.cut {F : Int → Option (List UInt8)} (hF : Blocks32 F) {f k : Nat} {cs : List CallM} {ls : List (List UInt8)} {rs : List Nat} (h : Hist F f k cs ls rs) (h0 : reg (con F []) f k = List.replicate (32 * k) 0) {m κ : Nat} (hs : SyncAt (cs.take m) κ) (ks : List Bool) (torn : Int) {s : Nat} (hs0 : κ = 0 → s = 0) (hs1 : 0 < κ → rs[κ - 1]? = some s) (p : Nat) (u : UInt8)
    (hp : (reg (fun x => (cutF F (cs.take m) κ ks torn x).getD zero32) f k)[p]? = some u) : ((tex ls k ls.length)[p]? = some u ∨ u = 0) ∧ (p < (frames (ls.take s)).length → (tex ls k ls.length)[p]? = some u) := by
  have hκ : κ ≤ cs.length ∧ κ ≤ m := by
    have := hs.1
    rw [List.length_take] at this
    omega
  refine reg_TB (t := tex ls k ls.length) (L := (frames (ls.take s)).length) (k := k) (f := f) (fun x => cutF_good2 (TB.tears _ f k _) hs (fun y => ?_) (fun c hc hsy => ?_) ks torn x) p u hp
  · -- the content at the last Sync
    have htk : (cs.take m).take κ = cs.take κ := by rw [List.take_take, Nat.min_eq_left hκ.2]
    rw [htk]
    have hok : ∀ c ∈ cs.take κ, c.ok := fun c hc => h.ok c (List.mem_of_mem_take hc)
    have h32 := con_all32 hF hok
    have hreg : reg (con F (cs.take κ)) f k = tex ls k s ∨ reg (con F (cs.take κ)) f k = List.replicate (32 * k) 0 ∧ s = 0 := by
      by_cases hz : κ = 0
      · right
        subst hz
        exact ⟨h0, hs0 rfl⟩
      · left
        obtain ⟨c, hc, hcs⟩ := hs.2.2 (by omega)
        rw [List.getElem?_take, if_pos (by omega)] at hc
        have := h.sync (κ - 1) s c hc (hs1 (by omega)) hcs
        rwa [show κ - 1 + 1 = κ by omega] at this
    refine ⟨h32 y, fun j hj hy1 hy2 v hv => ?_⟩
    have e : y = ((f + (y.toNat - f) : Nat) : Int) := by omega
    have hget := reg_get h32 f k (y.toNat - f) j (by omega) hj
    rw [← e, hv] at hget
    rcases hreg with hreg | ⟨hreg, hsz⟩
    · rw [hreg] at hget
      exact tex_get h.fits (Nat.le_refl s) hget
    · rw [hreg, List.getElem?_replicate] at hget
      split at hget
      · injection hget with hget
        refine ⟨.inr hget.symm, fun hlt => ?_⟩
        rw [hsz] at hlt
        simp [frames] at hlt
      · cases hget
  · -- what was written behind it
    obtain ⟨i, hi⟩ := List.getElem?_of_mem hc
    rw [List.getElem?_drop, List.getElem?_take] at hi
    split at hi
    · have hil := (List.getElem?_eq_some_iff.1 hi).1
      obtain ⟨r, hr⟩ : ∃ r, rs[κ + i]? = some r := ⟨_, List.getElem?_eq_getElem (by rw [h.len]; exact hil)⟩
      obtain ⟨h1, h2⟩ := h.write (κ + i) r c hi hr hsy
      have hsr : s ≤ r := by
        by_cases hz : κ = 0
        · rw [hs0 hz]; omega
        · exact h.rise (κ - 1) (κ + i) s r (by omega) (hs1 (by omega)) hr
      refine ⟨h1, fun j hj hx1 hx2 v hv => ?_⟩
      rw [h2 j hj hx1 hx2] at hv
      exact tex_get h.fits hsr hv
    · cases hi

/-- What a loss of power leaves while a region is opened: each byte is as it was or a nought, and those of the records are as they were. -/
theorem open_cut {F : Int → Option (List UInt8)} (hF : Blocks32 F) {f k n : Nat} (hfk : f + k ≤ 65536) {cs : List CallM} (hcs : ∀ c ∈ cs, c.sync = false → c ∈ zto (con F []) f k n k) {dn : List CallM} (hdn : ∀ c ∈ dn, c ∈ cs) {κ : Nat} (hs : SyncAt dn κ) (ks : List Bool) (torn : Int) (p : Nat) (u : UInt8)
    (hp : (reg (fun x => (cutF F dn κ ks torn x).getD zero32) f k)[p]? = some u) : ((reg (con F []) f k)[p]? = some u ∨ u = 0) ∧ (p < n → (reg (con F []) f k)[p]? = some u) := by
  have h32 := con_all32 hF (cs := []) (fun c hc => by cases hc)
  refine reg_TB (t := reg (con F []) f k) (L := n) (k := k) (f := f) (fun x => cutF_good (TB.tears _ f k _) (fun y => ?_) (fun c hc hsy => ?_) hs ks torn x) p u hp
  · refine ⟨h32 y, fun j hj hy1 hy2 v hv => ?_⟩
    have e : y = ((f + (y.toNat - f) : Nat) : Int) := by omega
    have hget := reg_get h32 f k (y.toNat - f) j (by omega) hj
    rw [← e] at hget
    have hv' : (con F [] y)[j]? = some v := hv
    rw [hv'] at hget
    exact ⟨.inl hget, fun _ => hget⟩
  · have hz := hcs c (hdn c hc) hsy
    have key : ∀ n', n' ≤ k → ∀ c ∈ zto (con F []) f k n n', ∃ i, i < k ∧ c.n = ((f + i : Nat) : Int) ∧ c.bytes = zb n i (con F [] ((f + i : Nat) : Int)) := fun n' => by
      induction n' with
      | zero => intro _ c hc; cases hc
      | succ n' ih =>
        intro hn c hc
        unfold zto at hc
        rcases List.mem_append.1 hc with hc | hc
        · exact ih (by omega) c hc
        · split at hc
          · cases hc
          · rw [List.mem_singleton] at hc
            subst hc
            exact ⟨k - 1 - n', by omega, rfl, rfl⟩
    obtain ⟨i, hik, e1, e2⟩ := key k (Nat.le_refl _) c hz
    refine ⟨by rw [e2]; exact length_zb (h32 _), fun j hj hx1 hx2 v hv => ?_⟩
    rw [e2, zb_get (h32 _) hj] at hv
    rw [e1, show (((f + i : Nat) : Int)).toNat - f = i by omega]
    have hget := reg_get h32 f k i j hik hj
    split at hv
    · rename_i hlt
      rw [hv] at hget
      exact ⟨.inl hget, fun _ => hget⟩
    · rename_i hlt
      injection hv with hv
      exact ⟨.inr hv.symm, fun h => absurd h hlt⟩

/-- JournalKeeps, as plain lists: what is opened behind a loss of power, and behind another one while it was opened. -/
theorem keeps_law {F : Int → Option (List UInt8)} (hF : Blocks32 F) {f k : Nat} (hfk : f + k ≤ 65536) {cs : List CallM} {ls : List (List UInt8)} {rs : List Nat} (h : Hist F f k cs ls rs) (h0 : reg (con F []) f k = List.replicate (32 * k) 0) {m κ : Nat} (hs : SyncAt (cs.take m) κ) (ks : List Bool) (torn : Int) {s : Nat} (hs0 : κ = 0 → s = 0) (hs1 : 0 < κ → rs[κ - 1]? = some s)
    {F1 : Int → Option (List UInt8)} (eF1 : F1 = cutF F (cs.take m) κ ks torn) {was : List (List UInt8)} {n : Nat} (hw : IsScan (reg (con F1 []) f k) was n) {m1 κ1 : Nat} (hs' : SyncAt ((openCs (con F1 []) [] f k n).take m1) κ1) (ks1 : List Bool) (torn1 : Int)
    {F2 : Int → Option (List UInt8)} (eF2 : F2 = cutF F1 ((openCs (con F1 []) [] f k n).take m1) κ1 ks1 torn1) {now : List (List UInt8)} {n2 : Nat} (hn : IsScan (reg (con F2 []) f k) now n2) (a : ¬ Strange was ls) (b : ¬ Strange now ls) : now = was ∧ s ≤ was.length := by
  have hokm : ∀ c ∈ cs.take m, c.ok := fun c hc => h.ok c (List.mem_of_mem_take hc)
  have hF1 : Blocks32 F1 := by rw [eF1]; exact cutF32 hF hokm hs ks torn
  have hX := Hist.cut hF h h0 hs ks torn hs0 hs1
  have eX : (fun x => (cutF F (cs.take m) κ ks torn x).getD zero32) = con F1 [] := by rw [eF1]; rfl
  rw [eX] at hX
  have hY := fun p u => open_cut (n := n) hF1 hfk (cs := openCs (con F1 []) [] f k n) (fun c hc hsy => by
    unfold openCs at hc
    split at hc
    · cases hc
    · rw [List.nil_append] at hc
      rcases List.mem_append.1 hc with hc | hc
      · exact hc
      · rw [List.mem_singleton] at hc
        subst hc
        cases hsy) (dn := (openCs (con F1 []) [] f k n).take m1) (fun c hc => List.mem_of_mem_take hc) hs' ks1 torn1 p u
  have eY : (fun x => (cutF F1 ((openCs (con F1 []) [] f k n).take m1) κ1 ks1 torn1 x).getD zero32) = con F2 [] := by rw [eF2]; rfl
  rw [eY] at hY
  have h32a := con_all32 hF1 (cs := []) (fun c hc => by cases hc)
  have hokz : ∀ c ∈ openCs (con F1 []) [] f k n, c.ok := fun c hc => by
    unfold openCs at hc
    split at hc
    · cases hc
    · rw [List.nil_append] at hc
      rcases List.mem_append.1 hc with hc | hc
      · exact (zto_ok h32a hfk k (Nat.le_refl _) c hc).1
      · rw [List.mem_singleton] at hc
        subst hc
        exact syncM_ok
  have hF2 : Blocks32 F2 := by rw [eF2]; exact cutF32 hF1 (fun c hc => hokz c (List.mem_of_mem_take hc)) hs' ks1 torn1
  have h32b := con_all32 hF2 (cs := []) (fun c hc => by cases hc)
  have hsl : s ≤ ls.length := by
    by_cases hz : κ = 0
    · rw [hs0 hz]; omega
    · exact h.most _ _ (hs1 (by omega))
  have et : tex ls k ls.length = frames ls ++ List.replicate (32 * k - (frames ls).length) 0 := by
    unfold tex
    rw [List.take_of_length_le (Nat.le_refl _)]
  exact keeps h.recs et hsl hX (by rw [length_reg h32a, length_tex h.fits]) hw hY (by rw [length_reg h32a, length_reg h32b]) hn a b
end Go.Proofs.Ytpfdlcogldbocaa

/-
  A journal as plain lists: a region's bytes, the calls that Open, Append and Clear make, and what they leave. No condition.
-/
import Derived.Test.YtpfdlcogldbocaaFrame
import Derived.Test.YtpfdlcogldbocaaStep
namespace Go.Proofs.Ytpfdlcogldbocaa
open Go.RowKit Go.Maps

theorem wf_small (n : Nat) (h : n ≤ 65536) : (Lit.int .i64 (n : Int)).wf = true := by
  have h0 : (0 : Int) ≤ (n : Int) := by omega
  have h1 : (n : Int) ≤ 65536 := by omega
  go_wf

/-! ### what a disk contains -/
def con (F : Int → Option (List UInt8)) (cs : List CallM) : Int → List UInt8 := fun x => (layTo F cs (fun _ => 32) cs.length x).getD zero32
def putC (C : Int → List UInt8) (x : Int) (l : List UInt8) : Int → List UInt8 := fun y => if y = x then l else C y
def All32 (C : Int → List UInt8) : Prop := ∀ x, (C x).length = 32

theorem con_all32 {F : Int → Option (List UInt8)} (hF : Blocks32 F) {cs : List CallM} (hc : ∀ c ∈ cs, c.ok) : All32 (con F cs) := fun x =>
  getD32 (blocks32_layTo hF hc (fun _ => Nat.le_refl _) cs.length (Nat.le_refl _)) x
theorem con_write {F : Int → Option (List UInt8)} (hF : Blocks32 F) {cs : List CallM} (hc : ∀ c ∈ cs, c.ok) {x : Int} {l : List UInt8} (hl : l.length = 32) : con F (cs ++ [⟨false, x, l⟩]) = putC (con F cs) x l := by
  have h32 := con_all32 hF hc
  funext y
  unfold con
  rw [layTo_snoc, laid_write]
  have e : tear 32 ((layTo F cs (fun _ => 32) cs.length x).getD zero32) l = l := tear_all (h32 x) hl
  rw [e]
  unfold putC
  by_cases h : y = x
  · subst h; rw [upd_same, if_pos rfl]; rfl
  · rw [upd_other _ _ _ h, if_neg h]
theorem con_sync {F : Int → Option (List UInt8)} {cs : List CallM} : con F (cs ++ [syncM]) = con F cs := by
  funext y
  unfold con
  rw [layTo_snoc, laid_sync rfl]
theorem con_rd {F S : Int → Option (List UInt8)} {cs : List CallM} (h : Lays F S cs) (x : Int) : con F cs x = rd F S x := by
  unfold con rd
  rw [h]
  show ((S x).or (F x)).getD zero32 = _
  cases S x <;> rfl
theorem putC_all32 {C : Int → List UInt8} (h : All32 C) {x : Int} {l : List UInt8} (hl : l.length = 32) : All32 (putC C x l) := fun y => by
  unfold putC
  split
  · exact hl
  · exact h y

/-! ### a region's bytes -/
def reg (C : Int → List UInt8) (f : Nat) : Nat → List UInt8
  | 0 => []
  | k + 1 => reg C f k ++ C ((f + k : Nat) : Int)
theorem length_reg {C : Int → List UInt8} (h : All32 C) (f : Nat) : ∀ k, (reg C f k).length = 32 * k
  | 0 => rfl
  | k + 1 => by
    unfold reg
    rw [List.length_append, length_reg h f k, h]
    omega
theorem reg_block {C : Int → List UInt8} (h : All32 C) (f : Nat) : ∀ k i, i < k → ((reg C f k).drop (32 * i)).take 32 = C ((f + i : Nat) : Int)
  | 0, i, hi => by omega
  | k + 1, i, hi => by
    unfold reg
    have hl := length_reg h f k
    have h32 := h ((f + k : Nat) : Int)
    by_cases e : i = k
    · subst e
      rw [List.drop_append_of_le_length (by omega), List.drop_of_length_le (by omega), List.nil_append, List.take_of_length_le (by omega)]
    · rw [List.drop_append_of_le_length (by omega), List.take_append_of_le_length (by rw [List.length_drop]; omega)]
      exact reg_block h f k i (by omega)
theorem reg_get {C : Int → List UInt8} (h : All32 C) (f k i j : Nat) (hi : i < k) (hj : j < 32) : (reg C f k)[32 * i + j]? = (C ((f + i : Nat) : Int))[j]? := by
  rw [← reg_block h f k i hi, List.getElem?_take, if_pos hj, List.getElem?_drop]
theorem reg_congr {C D : Int → List UInt8} (f : Nat) : ∀ k, (∀ i, i < k → C ((f + i : Nat) : Int) = D ((f + i : Nat) : Int)) → reg C f k = reg D f k
  | 0, _ => rfl
  | k + 1, h => by
    unfold reg
    rw [reg_congr f k (fun i hi => h i (by omega)), h k (by omega)]
/-- A region's bytes told byte by byte. -/
theorem reg_eq {C : Int → List UInt8} (h : All32 C) (f k : Nat) (l : List UInt8) (hl : l.length = 32 * k) (hc : ∀ i j, i < k → j < 32 → (C ((f + i : Nat) : Int))[j]? = l[32 * i + j]?) : reg C f k = l := by
  refine List.ext_getElem? fun p => ?_
  by_cases hp : p < 32 * k
  · have e : p = 32 * (p / 32) + p % 32 := by omega
    rw [e, reg_get h f k (p / 32) (p % 32) (by omega) (by omega)]
    exact hc _ _ (by omega) (by omega)
  · rw [List.getElem?_eq_none (by rw [length_reg h]; omega), List.getElem?_eq_none (by omega)]

/-! ### noughts behind n -/
def zb (n i : Nat) (b : List UInt8) : List UInt8 := b.take (n - 32 * i) ++ List.replicate (32 - (n - 32 * i)) 0
theorem length_zb {n i : Nat} {b : List UInt8} (h : b.length = 32) : (zb n i b).length = 32 := by
  unfold zb
  rw [List.length_append, List.length_take, List.length_replicate, h]
  omega
theorem zb_get {n i : Nat} {b : List UInt8} (h : b.length = 32) {j : Nat} (hj : j < 32) : (zb n i b)[j]? = if 32 * i + j < n then b[j]? else some 0 := by
  unfold zb
  by_cases hlt : 32 * i + j < n
  · rw [if_pos hlt, List.getElem?_append_left (by rw [List.length_take]; omega), List.getElem?_take, if_pos (by omega)]
  · rw [if_neg hlt, List.getElem?_append_right (by rw [List.length_take]; omega), List.getElem?_replicate, if_pos (by rw [List.length_take]; omega)]
/-- The calls by which a region of k blocks is zeroed behind its first n bytes: the last j blocks are done. -/
def zto (C : Int → List UInt8) (f k n : Nat) : Nat → List CallM
  | 0 => []
  | j + 1 => zto C f k n j ++ (if zb n (k - 1 - j) (C ((f + (k - 1 - j) : Nat) : Int)) = C ((f + (k - 1 - j) : Nat) : Int) then [] else [⟨false, ((f + (k - 1 - j) : Nat) : Int), zb n (k - 1 - j) (C ((f + (k - 1 - j) : Nat) : Int))⟩])
theorem zto_ok {C : Int → List UInt8} (h : All32 C) {f k n : Nat} (hf : f + k ≤ 65536) : ∀ j, j ≤ k → ∀ c ∈ zto C f k n j, c.ok ∧ c.sync = false ∧ (f : Int) ≤ c.n ∧ c.n < ((f + k : Nat) : Int)
  | 0, _, c, hc => by cases hc
  | j + 1, hj, c, hc => by
    unfold zto at hc
    rcases List.mem_append.1 hc with hc | hc
    · exact zto_ok h hf j (by omega) c hc
    · split at hc
      · cases hc
      · rw [List.mem_singleton] at hc
        subst hc
        refine ⟨⟨length_zb (h _), ?_⟩, rfl, ?_, ?_⟩
        · exact wf_small _ (by omega)
        · show (f : Int) ≤ ((f + (k - 1 - j) : Nat) : Int)
          omega
        · show ((f + (k - 1 - j) : Nat) : Int) < ((f + k : Nat) : Int)
          omega
theorem zto_len (C : Int → List UInt8) (f k n : Nat) : ∀ j, (zto C f k n j).length ≤ j
  | 0 => Nat.le_refl _
  | j + 1 => by
    have := zto_len C f k n j
    unfold zto
    rw [List.length_append]
    split <;> simp <;> omega

/-- What is contained behind these calls. -/
theorem con_zto {F : Int → Option (List UInt8)} (hF : Blocks32 F) {cs : List CallM} (hc : ∀ c ∈ cs, c.ok) {f k n : Nat} (hf : f + k ≤ 65536) : ∀ j, j ≤ k → ∀ x, con F (cs ++ zto (con F cs) f k n j) x = (if ((f + (k - j) : Nat) : Int) ≤ x ∧ x < ((f + k : Nat) : Int) then zb n (x.toNat - f) (con F cs x) else con F cs x)
  | 0, _, x => by
    rw [if_neg (by omega)]
    unfold zto
    rw [List.append_nil]
  | j + 1, hj, x => by
    have h32 := con_all32 hF hc
    have ih := con_zto hF hc (n := n) hf j (by omega) x
    have hok : ∀ c ∈ cs ++ zto (con F cs) f k n j, c.ok := fun c hcc => by
      rcases List.mem_append.1 hcc with h | h
      · exact hc c h
      · exact (zto_ok h32 hf j (by omega) c h).1
    have e1 : (((f + (k - 1 - j) : Nat) : Int)).toNat - f = k - 1 - j := by omega
    unfold zto
    split
    · rename_i he
      rw [List.append_nil, ih]
      by_cases hx : x = ((f + (k - 1 - j) : Nat) : Int)
      · subst hx
        rw [if_neg (by omega), if_pos (by omega), e1, he]
      · by_cases h1 : ((f + (k - j) : Nat) : Int) ≤ x ∧ x < ((f + k : Nat) : Int)
        · rw [if_pos h1, if_pos (by omega)]
        · rw [if_neg h1, if_neg (by omega)]
    · rw [← List.append_assoc, con_write hF hok (length_zb (h32 _))]
      unfold putC
      by_cases hx : x = ((f + (k - 1 - j) : Nat) : Int)
      · subst hx
        rw [if_pos rfl, if_pos (by omega), e1]
      · rw [if_neg hx, ih]
        by_cases h1 : ((f + (k - j) : Nat) : Int) ≤ x ∧ x < ((f + k : Nat) : Int)
        · rw [if_pos h1, if_pos (by omega)]
        · rw [if_neg h1, if_neg (by omega)]
/-- .. of all blocks: the region's first n bytes, and noughts. -/
theorem reg_zto {F : Int → Option (List UInt8)} (hF : Blocks32 F) {cs : List CallM} (hc : ∀ c ∈ cs, c.ok) {f k n : Nat} (hf : f + k ≤ 65536) (hn : n ≤ 32 * k) :
    reg (con F (cs ++ zto (con F cs) f k n k)) f k = (reg (con F cs) f k).take n ++ List.replicate (32 * k - n) 0 := by
  have h32 := con_all32 hF hc
  have hok : ∀ c ∈ cs ++ zto (con F cs) f k n k, c.ok := fun c hcc => by
    rcases List.mem_append.1 hcc with h | h
    · exact hc c h
    · exact (zto_ok h32 hf k (Nat.le_refl _) c h).1
  have hl := length_reg h32 f k
  refine reg_eq (con_all32 hF hok) f k _ (by rw [List.length_append, List.length_take, List.length_replicate]; omega) fun i j hi hj => ?_
  rw [con_zto hF hc hf k (Nat.le_refl _), if_pos (by omega), show (((f + i : Nat) : Int)).toNat - f = i by omega, zb_get (h32 _) hj]
  by_cases hlt : 32 * i + j < n
  · rw [if_pos hlt, List.getElem?_append_left (by rw [List.length_take]; omega), List.getElem?_take, if_pos hlt, reg_get h32 f k i j hi hj]
  · rw [if_neg hlt, List.getElem?_append_right (by rw [List.length_take]; omega), List.getElem?_replicate, if_pos (by rw [List.length_take]; omega)]

/-! ### a frame put behind -/
/-- The calls by which bytes from block b0 on are written: j blocks are done. -/
def wto (next : List UInt8) (f b0 : Nat) : Nat → List CallM
  | 0 => []
  | j + 1 => wto next f b0 j ++ [⟨false, ((f + (b0 + j) : Nat) : Int), (next.drop (32 * (b0 + j))).take 32⟩]
theorem wto_ok {next : List UInt8} {f b0 k : Nat} (hf : f + k ≤ 65536) (hl : next.length = 32 * k) : ∀ j, b0 + j ≤ k → ∀ c ∈ wto next f b0 j, c.ok ∧ c.sync = false ∧ (f : Int) ≤ c.n ∧ c.n < ((f + k : Nat) : Int)
  | 0, _, c, hc => by cases hc
  | j + 1, hj, c, hc => by
    unfold wto at hc
    rcases List.mem_append.1 hc with hc | hc
    · exact wto_ok hf hl j (by omega) c hc
    · rw [List.mem_singleton] at hc
      subst hc
      refine ⟨⟨?_, wf_small _ (by omega)⟩, rfl, ?_, ?_⟩
      · show ((next.drop (32 * (b0 + j))).take 32).length = 32
        rw [List.length_take, List.length_drop]
        omega
      · show (f : Int) ≤ ((f + (b0 + j) : Nat) : Int)
        omega
      · show ((f + (b0 + j) : Nat) : Int) < ((f + k : Nat) : Int)
        omega
theorem wto_len (next : List UInt8) (f b0 : Nat) : ∀ j, (wto next f b0 j).length = j
  | 0 => rfl
  | j + 1 => by
    unfold wto
    rw [List.length_append, wto_len next f b0 j]
    rfl
theorem con_wto {F : Int → Option (List UInt8)} (hF : Blocks32 F) {cs : List CallM} (hc : ∀ c ∈ cs, c.ok) {next : List UInt8} {f b0 k : Nat} (hf : f + k ≤ 65536) (hl : next.length = 32 * k) : ∀ j, b0 + j ≤ k → ∀ x,
    con F (cs ++ wto next f b0 j) x = (if ((f + b0 : Nat) : Int) ≤ x ∧ x < ((f + (b0 + j) : Nat) : Int) then (next.drop (32 * (x.toNat - f))).take 32 else con F cs x)
  | 0, _, x => by
    rw [if_neg (by omega)]
    unfold wto
    rw [List.append_nil]
  | j + 1, hj, x => by
    have ih := con_wto (b0 := b0) hF hc hf hl j (by omega) x
    have hok : ∀ c ∈ cs ++ wto next f b0 j, c.ok := fun c hcc => by
      rcases List.mem_append.1 hcc with h | h
      · exact hc c h
      · exact (wto_ok hf hl j (by omega) c h).1
    have hl2 : ((next.drop (32 * (b0 + j))).take 32).length = 32 := by
      rw [List.length_take, List.length_drop]
      omega
    unfold wto
    rw [← List.append_assoc, con_write hF hok hl2]
    unfold putC
    by_cases hx : x = ((f + (b0 + j) : Nat) : Int)
    · subst hx
      rw [if_pos rfl, if_pos (by omega), show (((f + (b0 + j) : Nat) : Int)).toNat - f = b0 + j by omega]
    · rw [if_neg hx, ih]
      by_cases h1 : ((f + b0 : Nat) : Int) ≤ x ∧ x < ((f + (b0 + j) : Nat) : Int)
      · rw [if_pos h1, if_pos (by omega)]
      · rw [if_neg h1, if_neg (by omega)]
/-- Where the other blocks are as they were, the region is the new bytes. -/
theorem reg_wto {F : Int → Option (List UInt8)} (hF : Blocks32 F) {cs : List CallM} (hc : ∀ c ∈ cs, c.ok) {next : List UInt8} {f b0 j k : Nat} (hf : f + k ≤ 65536) (hl : next.length = 32 * k) (hj : b0 + j ≤ k)
    (hs : ∀ p, p < 32 * b0 ∨ 32 * (b0 + j) ≤ p → next[p]? = (reg (con F cs) f k)[p]?) : reg (con F (cs ++ wto next f b0 j)) f k = next := by
  have h32 := con_all32 hF hc
  have hok : ∀ c ∈ cs ++ wto next f b0 j, c.ok := fun c hcc => by
    rcases List.mem_append.1 hcc with h | h
    · exact hc c h
    · exact (wto_ok hf hl j hj c h).1
  refine reg_eq (con_all32 hF hok) f k _ hl fun i q hi hq => ?_
  rw [con_wto hF hc hf hl j hj]
  by_cases hb : b0 ≤ i ∧ i < b0 + j
  · rw [if_pos (by omega), show (((f + i : Nat) : Int)).toNat - f = i by omega, List.getElem?_take, if_pos hq, List.getElem?_drop]
  · rw [if_neg (by omega), hs (32 * i + q) (by omega), reg_get h32 f k i q hi hq]
end Go.Proofs.Ytpfdlcogldbocaa

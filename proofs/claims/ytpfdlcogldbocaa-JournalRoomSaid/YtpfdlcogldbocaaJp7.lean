/-
  The program's journal and its records, as one: what each call makes of them. Conditions: its disk and the journal lie in memory, apart.
-/
import Derived.Test.YtpfdlcogldbocaaJp6
import Derived.Test.YtpfdlcogldbocaaLink
namespace Go.Proofs.Ytpfdlcogldbocaa
open Go.RowKit Go.Deep Go.Maps

set_option maxRecDepth 100000 in
theorem jp_append_no (pj : Nat) (A : Option Addr) (l : List UInt8) (cap : Nat) (w : World) (hm : l.length ≤ maxLen) (hr : ¬ RecOk l) :
    Calls Try.prog 12 #[.pointer (some ⟨pj, 0, none⟩), .slice A l.length cap] w fun e w' => e = .returned (.int .i64 1) ∧ w = w' := by
  have HW := Lib.hid (wrap_no A l cap w hm hr)
  clear hm hr
  go_enter Try.func12, Try.ntmps12
  go_wp2_with fail
  go_at_call 41
  (with_reducible refine (HW.out).mono ?_)
  rintro e w' ⟨rfl, rfl⟩
  go_wp2_with fail
  go_ret
  exact ⟨rfl, rfl⟩

set_option maxRecDepth 100000 in
set_option maxHeartbeats 2000000 in
theorem jp_append_full {w : World} {pj g p f k u : Nat} {X : List UInt8} (hJ : PJ w pj g p f k X u) (hk : k ≤ 65536) (A : Option Addr) (l : List UInt8) (cap : Nat) (hA : BytesAt w A l) (hr : RecOk l) (hu : u ≤ 32 * k) (hroom : 32 * k < u + (frame l).length) :
    Calls Try.prog 12 #[.pointer (some ⟨pj, 0, none⟩), .slice A l.length cap] w fun e w' => e = .returned (.int .i64 51) ∧ Below w.heap.size w w' := by
  have HW := Lib.hid (wrap_ok A l cap w hA hr)
  have HRO := Lib.hid fun (W : World) (hb : Below w.heap.size w W) => jp_room (hJ.below hb) hu hk
  have HROOM := Lib.hid hroom
  have HL := Lib.hid (length_frame l)
  have HREC := Lib.hid hr
  clear hA hr hJ hroom
  go_enter Try.func12, Try.ntmps12
  go_wp2_with fail
  go_at_call 41
  (with_reducible refine (HW.out).mono ?_)
  rintro e W1 ⟨v, rfl, g1, q, c1, rfl, hq, hown1, hb1⟩
  have hqq : q ≤ 8192 := by rw [hq, HL.out]; have := HREC.out.2; omega
  have hfit : 32 * (k : Int) - (u : Int) < (q : Int) := by have := HROOM.out; omega
  have HB1 := Lib.hid hb1
  have HRO1 := Lib.hid (HRO.out W1 hb1)
  clear hq hown1 hb1
  go_wp2_with fail
  go_at_call 25
  (with_reducible refine (HRO1.out).mono ?_)
  rintro e w' ⟨rfl, N, rfl⟩
  go_wp2_with fail
  go_ret
  exact ⟨rfl, ⟨HB1.out.os, HB1.out.tape, HB1.out.output, HB1.out.size, HB1.out.block⟩⟩

/-! ### a journal and its records -/
theorem tex_all (ls : List (List UInt8)) (k : Nat) : tex ls k ls.length = frames ls ++ List.replicate (32 * k - (frames ls).length) 0 := by
  unfold tex
  rw [List.take_of_length_le (Nat.le_refl _)]
theorem scan_tex {ls : List (List UInt8)} (k : Nat) (hr : ∀ l ∈ ls, RecOk l) : IsScan (tex ls k ls.length) ls (frames ls).length := by
  rw [tex_all]
  exact IsScan.frames_more ls _ hr (takeE_noughts _)
theorem tex_nil (k : Nat) : tex [] k 0 = List.replicate (32 * k) 0 := by simp [tex, frames]

theorem open_ok {F : Int → Option (List UInt8)} (hF : Blocks32 F) {cs : List CallM} (hc : ∀ c ∈ cs, c.ok) {f k u : Nat} (hf : f + k ≤ 65536) : ∀ c ∈ openCs (con F cs) cs f k u, c.ok := fun c h => by
  unfold openCs at h
  split at h
  · exact hc c h
  · rcases List.mem_append.1 h with h | h
    · exact zto_ok2 hF hc hf (Nat.le_refl _) c h
    · rw [List.mem_singleton] at h
      subst h
      exact syncM_ok
theorem open_len (C : Int → List UInt8) (cs : List CallM) (f k u : Nat) : (openCs C cs f k u).length ≤ cs.length + k + 1 := by
  unfold openCs
  split
  · omega
  · have := zto_len C f k u k
    rw [List.length_append, List.length_append]
    simp
    omega
theorem reg_open {F : Int → Option (List UInt8)} (hF : Blocks32 F) {cs : List CallM} (hc : ∀ c ∈ cs, c.ok) {f k u : Nat} {ls : List (List UInt8)} (hf : f + k ≤ 65536) (hs : IsScan (reg (con F cs) f k) ls u) :
    reg (con F (openCs (con F cs) cs f k u)) f k = tex ls k ls.length ∧ (frames ls).length ≤ 32 * k := by
  have h32 := con_all32 hF hc
  have hl := length_reg h32 f k
  have hu := hs.len
  have hle := hs.1
  rw [hl] at hle
  refine ⟨?_, by omega⟩
  rw [tex_all, ← hu, ← hs.2.1]
  unfold openCs
  split
  · rename_i hz
    have hd := (zto_nil h32 f k u).1 hz
    have e : (reg (con F cs) f k).drop u = List.replicate (32 * k - u) 0 := List.eq_replicate_iff.2 ⟨by rw [List.length_drop, hl], hd⟩
    rw [← e, List.take_append_drop]
  · rw [con_sync, reg_zto hF hc hf hle]

/-- The program's journal at pj, on its disk at p, with the records ls. -/
def JS (w : World) (Z : Nat → Prop) (pj g p n f k : Nat) (F : Int → Option (List UInt8)) (cs : List CallM) (ls : List (List UInt8)) (m : Nat) : Prop :=
  Dk w Z p n F cs m ∧ PJ w pj g p f k (reg (con F cs) f k) (frames ls).length ∧ reg (con F cs) f k = tex ls k ls.length ∧ (∀ l ∈ ls, RecOk l) ∧ (frames ls).length ≤ 32 * k ∧ ¬ Z pj ∧ ¬ Z g

section
variable {w : World} {Z : Nat → Prop} {pj g p n f k m : Nat} {F : Int → Option (List UInt8)} {cs : List CallM} {ls : List (List UInt8)}
theorem JS.turned (h : JS w Z pj g p n f k F cs ls m) {w' : World} {T : Nat → Prop} (ht : Turned T w w') (hT : ∀ j, Z j ∨ j = pj ∨ j = g → ¬ T j) : JS w' Z pj g p n f k F cs ls m :=
  ⟨h.1.turned ht (fun j hj => hT j (.inl hj)), h.2.1.turned ht (hT _ (.inr (.inl rfl))) (hT _ (.inr (.inr rfl))), h.2.2⟩
theorem JS.below (h : JS w Z pj g p n f k F cs ls m) {w' : World} (hb : Below w.heap.size w w') : JS w' Z pj g p n f k F cs ls m := h.turned (Turned.of_below (S := fun _ => False) hb) (fun _ _ h => h)
theorem JS.more (h : JS w Z pj g p n f k F cs ls m) {m' : Nat} (hm : m ≤ m') : JS w Z pj g p n f k F cs ls m' := ⟨h.1.more hm, h.2⟩
theorem JS.lt (h : JS w Z pj g p n f k F cs ls m) : ∀ j, Z j ∨ j = pj ∨ j = g → j < w.heap.size := fun j hj => by
  rcases hj with hj | hj | hj
  · exact h.1.zlt j hj
  · rw [hj]; exact h.2.1.lt.1
  · rw [hj]; exact h.2.1.lt.2
theorem JS.scan (h : JS w Z pj g p n f k F cs ls m) : IsScan (reg (con F cs) f k) ls (frames ls).length := by
  rw [h.2.2.1]
  exact scan_tex k h.2.2.2.1

theorem js_room (h : JS w Z pj g p n f k F cs ls m) (hk : k ≤ 65536) : Calls Try.prog 25 #[.pointer (some ⟨pj, 0, none⟩)] w (RoomAns (32 * (k : Int) - ((frames ls).length : Int)) w) := jp_room h.2.1 h.2.2.2.2.1 hk
theorem js_records (h : JS w Z pj g p n f k F cs ls m) (hk : k ≤ 65536) : Calls Try.prog 24 #[.pointer (some ⟨pj, 0, none⟩)] w (RecsAns ls w) := jp_records h.2.1 h.scan hk

/-- What becomes of a journal by a call: it is elsewhere in new blocks alone. -/
def JSNext (Z : Nat → Prop) (pj g p n f k : Nat) (F : Int → Option (List UInt8)) (cs : List CallM) (ls : List (List UInt8)) (m : Nat) (w w' : World) : Prop :=
  ∃ Z', JS w' Z' pj g p n f k F cs ls m ∧ (∀ j, Z' j → Z j ∨ w.heap.size ≤ j) ∧ Turned (fun x => Z x ∨ x = pj ∨ x = g) w w'

theorem js_sync (h : JS w Z pj g p n f k F cs ls m) (hm : m < 1073741824) :
    Calls Try.prog 14 #[.pointer (some ⟨pj, 0, none⟩)] w fun e w' => e = .returned (.int .i64 0) ∧ JSNext Z pj g p n f k F (cs ++ [syncM]) ls (m + 1) w w' := by
  refine (jp_sync h.1 h.2.1 hm).mono fun e w' ⟨he, hd, ht⟩ => ⟨he, grow Z w w', ⟨hd, ?_, ?_, h.2.2.2.1, h.2.2.2.2.1, ?_, ?_⟩, fun j hj => hj.imp id (fun hj => hj.1), ht.widen (fun _ h => .inl h)⟩
  · rw [con_sync]
    exact h.2.1.turned ht h.2.2.2.2.2.1 h.2.2.2.2.2.2
  · rw [con_sync]
    exact h.2.2.1
  · exact fun hz => hz.elim h.2.2.2.2.2.1 (fun hz => by have := h.2.1.lt.1; omega)
  · exact fun hz => hz.elim h.2.2.2.2.2.2 (fun hz => by have := h.2.1.lt.2; omega)

theorem js_clear (h : JS w Z pj g p n f k F cs ls m) (hm : m + k < 1073741824) (hn : n ≤ 65536) (hfk : f + k ≤ n) :
    Calls Try.prog 21 #[.pointer (some ⟨pj, 0, none⟩)] w fun e w' => e = .returned (.int .i64 0) ∧ JSNext Z pj g p n f k F (cs ++ zto (con F cs) f k 0 k ++ [syncM]) [] (m + k + 1) w w' := by
  have hF := h.1.f32
  have hok := h.1.ok
  refine (jp_clear h.1 h.2.1 ⟨h.2.2.2.2.2.1, h.2.2.2.2.2.2⟩ hm hn hfk).mono fun e w' ⟨he, hd, hj, ht⟩ => ⟨he, grow Z w w', ⟨hd, hj, ?_, (fun l hl => by cases hl), Nat.zero_le _, ?_, ?_⟩, fun j hj => hj.imp id (fun hj => hj.1), ht.widen (fun x h => h.imp id (fun h => h.symm))⟩
  · rw [con_sync, reg_zto hF hok (by omega) (Nat.zero_le _)]
    show _ = tex [] k 0
    rw [tex_nil, List.take_zero, List.nil_append, Nat.sub_zero]
  · exact fun hz => hz.elim h.2.2.2.2.2.1 (fun hz => by have := h.2.1.lt.1; omega)
  · exact fun hz => hz.elim h.2.2.2.2.2.2 (fun hz => by have := h.2.1.lt.2; omega)

theorem js_append (h : JS w Z pj g p n f k F cs ls m) (hm : m + k < 1073741824) (hn : n ≤ 65536) (hfk : f + k ≤ n) (A : Option Addr) (l : List UInt8) (cap : Nat) (hA : BytesAt w A l) (hr : RecOk l) (hroom : (frames ls).length + (frame l).length ≤ 32 * k) :
    Calls Try.prog 12 #[.pointer (some ⟨pj, 0, none⟩), .slice A l.length cap] w fun e w' => e = .returned (.int .i64 0) ∧
      JSNext Z pj g p n f k F (cs ++ wto (nextOf (reg (con F cs) f k) l (frames ls).length) f ((frames ls).length / 32) (wrote (frames ls).length (frame l).length)) (ls ++ [l]) (m + k) w w' := by
  have hF := h.1.f32
  have hok := h.1.ok
  have h32 := con_all32 hF hok
  have hnx : nextOf (reg (con F cs) f k) l (frames ls).length = tex (ls ++ [l]) k (ls ++ [l]).length := by rw [h.2.2.1, next_tex hroom]
  have hfit2 : (frames (ls ++ [l])).length ≤ 32 * k := by rw [frames_snoc, List.length_append]; exact hroom
  have hlen := length_tex (r := (ls ++ [l]).length) hfit2
  have hreg : reg (con F (cs ++ wto (tex (ls ++ [l]) k (ls ++ [l]).length) f ((frames ls).length / 32) (wrote (frames ls).length (frame l).length))) f k = tex (ls ++ [l]) k (ls ++ [l]).length := by
    have hlf := length_frame l
    refine reg_wto hF hok (by omega) hlen (by unfold wrote; omega) fun q hq => ?_
    have hout : q < (frames ls).length ∨ (frames ls).length + (frame l).length ≤ q := by
      unfold wrote at hq
      omega
    rw [← hnx]
    have hl := length_reg h32 f k
    unfold nextOf
    rcases hout with hq | hq
    · rw [List.append_assoc, List.getElem?_append_left (by rw [List.length_take]; omega), List.getElem?_take, if_pos hq]
    · rw [List.getElem?_append_right (by rw [List.length_append, List.length_take]; omega), List.getElem?_drop, List.length_append, List.length_take]
      congr 1
      omega
  refine (jp_append h.1 h.2.1 ⟨h.2.2.2.2.2.1, h.2.2.2.2.2.2⟩ hm hn hfk A l cap hA hr hroom).mono fun e w' ⟨he, Z', hd, hj, hz, h1, h2, ht⟩ => ⟨he, Z', ⟨hd, ?_, ?_, fun x hx => ?_, hfit2, h1, h2⟩, hz, ht.widen (fun x h => h.imp id (fun h => h.symm))⟩
  · rw [hnx] at hj ⊢
    rw [hreg, frames_snoc, show (frames ls ++ frame l).length = (frames ls).length + (frame l).length from List.length_append]
    exact hj
  · rw [hnx]
    exact hreg
  · rcases List.mem_append.1 hx with hx | hx
    · exact h.2.2.2.1 x hx
    · rw [List.mem_singleton] at hx
      subst hx
      exact hr
theorem js_append_full (h : JS w Z pj g p n f k F cs ls m) (hk : k ≤ 65536) (A : Option Addr) (l : List UInt8) (cap : Nat) (hA : BytesAt w A l) (hr : RecOk l) (hroom : 32 * k < (frames ls).length + (frame l).length) :
    Calls Try.prog 12 #[.pointer (some ⟨pj, 0, none⟩), .slice A l.length cap] w fun e w' => e = .returned (.int .i64 51) ∧ Below w.heap.size w w' :=
  jp_append_full h.2.1 hk A l cap hA hr h.2.2.2.2.1 hroom

def JSOpen (Z : Nat → Prop) (p n f k : Nat) (F : Int → Option (List UInt8)) (cs : List CallM) (m : Nat) (w : World) (e : Ending) (w' : World) : Prop :=
  ∃ pj g Z' ls u, e = .returned (.tuple #[.pointer (some ⟨pj, 0, none⟩), .int .i64 0]) ∧ IsScan (reg (con F cs) f k) ls u ∧ JS w' Z' pj g p n f k F (openCs (con F cs) cs f k u) ls (m + k + 1) ∧ (w.heap.size ≤ pj ∧ w.heap.size ≤ g) ∧ (∀ j, Z' j → Z j ∨ w.heap.size ≤ j) ∧ Turned Z w w'
theorem js_open (hD : Dk w Z p n F cs m) (f k : Nat) (h1 : 1 ≤ k) (hm : m + k < 1073741824) (hn : n ≤ 65536) (hfk : f + k ≤ n) :
    Calls Try.prog 10 #[.pointer (some ⟨p, 0, none⟩), .int .i64 (f : Int), .int .i64 (k : Int)] w (JSOpen Z p n f k F cs m w) := by
  have hF := hD.f32
  have hok := hD.ok
  refine (jp_open hD f k h1 hm hn hfk).mono fun e w' ⟨pj, g, Z', ls, u, he, hs, hj, hd, h2, h3, hz, ht⟩ => ?_
  obtain ⟨hr, hl⟩ := reg_open hF hok (by omega) hs
  exact ⟨pj, g, Z', ls, u, he, hs, ⟨hd, by rw [← hs.len]; exact hj, hr, hs.2.2.1, hl, h2.2, h3.2⟩, ⟨h2.1, h3.1⟩, hz, ht⟩
end
end Go.Proofs.Ytpfdlcogldbocaa

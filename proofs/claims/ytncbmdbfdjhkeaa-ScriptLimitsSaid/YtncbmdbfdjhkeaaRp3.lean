/-
  Package replace's pieces in memory; a piece of bytes put behind others. Condition: fewer than a million pieces.
-/
import Derived.Test.YtncbmdbfdjhkeaaRp2
namespace Go.Proofs.Ytncbmdbfdjhkeaa
open Go.RowKit Go.Deep

abbrev Pc := ByteArray × Int
def Pc.cells (p : Pc) : List Value := [.string p.1, .int .i64 p.2]
def pcsV (l : List Pc) : List Value := l.flatMap Pc.cells
def u8V (l : List UInt8) : List Value := l.map fun b => .int .u8 (b.toNat : Int)
theorem pcsV_append (l m : List Pc) : pcsV (l ++ m) = pcsV l ++ pcsV m := by simp [pcsV]
theorem u8V_append (l m : List UInt8) : u8V (l ++ m) = u8V l ++ u8V m := by simp [u8V]
theorem length_u8V (l : List UInt8) : (u8V l).length = l.length := by simp [u8V]
theorem info_piece : (Try.prog.info? 109).map (fun i => (i.zero, i.size, i.bytes)) = some (some (.agg #[.string ⟨#[]⟩, .int .i64 0]), 2, 24) := by kernel_rfl
theorem info_u8 : (Try.prog.info? 5).map (fun i => (i.zero, i.size, i.bytes)) = some (some (.int .u8 0), 1, 1) := by kernel_rfl
theorem elem_piece : ElemOf 40 109 2 24 := by
  obtain ⟨i, hi, hz, hs, hb⟩ := info_parts info_piece
  exact ⟨Try.underlying40, ⟨i, _, hi, hz, hs, hb, rfl⟩, by omega, by omega⟩
theorem rp_elem_u8 : ElemOf 29 5 1 1 := by
  obtain ⟨i, hi, hz, hs, hb⟩ := info_parts info_u8
  exact ⟨Try.underlying29, ⟨i, _, hi, hz, hs, hb, rfl⟩, by omega, by omega⟩
/-- A piece of these bytes behind others, if there are any. -/
def withP (ps : List Pc) (bs : List UInt8) : List Pc := if bs = [] then ps else ps ++ [(txt bs, -1)]
theorem withP_len (ps : List Pc) (bs : List UInt8) : (withP ps bs).length ≤ ps.length + 1 := by
  unfold withP
  split <;> simp
theorem oneCell_pcs {l : List Pc} : ∀ v ∈ pcsV l, v.oneCell' = true := by
  intro v hv
  obtain ⟨f, _, hv⟩ := List.mem_flatMap.1 hv
  simp only [Pc.cells, List.mem_cons, List.not_mem_nil, or_false] at hv
  rcases hv with rfl | rfl <;> rfl
theorem oneCell_u8 {l : List UInt8} : ∀ v ∈ u8V l, v.oneCell' = true := by
  intro v hv
  obtain ⟨b, _, rfl⟩ := List.mem_map.1 hv
  rfl
theorem raw_new (w : World) (vs : List Value) (T : TypeId) : RawAt (w.alloc (.cells vs.toArray T)) (some ⟨w.heap.size, 0, none⟩) vs := .inr ⟨_, 0, rfl, fun j v hv => by
  rw [Nat.zero_add, obj_cell (heap_alloc_new w _)]
  simpa using hv⟩
/-- A row of pieces of the call's own. -/
def PcOwn (w : World) (B : Nat) (v : Value) (ps : List Pc) : Prop := w.ownsRow B 109 2 v ps.length (pcsV ps)
def WithA (w : World) (B : Nat) (v : Value) (ps : List Pc) (e : Ending) (w' : World) : Prop := ∃ v', e = .returned v' ∧ PcOwn w' B v' ps ∧ Turned (fun j => v.ownBlock = some j) w w' ∧ ∀ k, v'.ownBlock = some k → v.ownBlock = some k ∨ w.heap.size ≤ k
set_option maxRecDepth 100000 in
set_option maxHeartbeats 1000000 in
theorem wtext_is {w : World} {B : Nat} {v : Value} {ps : List Pc} {A : Option Addr} {bs : List UInt8} {c : Nat} (hv : PcOwn w B v ps) (hA : RawAt w A (u8V bs)) (hB : B ≤ w.heap.size) (hn : ps.length ≤ 1000000) :
    Calls Try.prog 65 #[v, .slice A bs.length c] w (WithA w B v (withP ps bs)) := by
  by_cases h0 : bs = []
  · subst h0
    have hd : withP ps [] = ps := rfl
    rw [hd]
    go_enter Try.func65, Try.ntmps65
    go_wp2_with fail
    go_ret
    exact ⟨_, rfl, hv, Turned.refl _ w, fun k hk => .inl hk⟩
  · have hd : withP ps bs = ps ++ [(txt bs, -1)] := if_neg h0
    have hl : bs.length ≠ 0 := fun h => h0 (List.eq_nil_of_length_eq_zero h)
    obtain ⟨g, o, rfl, hr⟩ : ∃ g o, A = some ⟨g, o, none⟩ ∧ w.rangeAt g o (u8V bs) := by
      rcases hA with h | h
      · have := congrArg List.length h
        rw [length_u8V] at this
        exact absurd this hl
      · exact h
    have hcv : (convert 29 9 (.slice (some ⟨g, o, none⟩) bs.length c)).run Try.prog w = .ok (.string (txt bs)) w :=
      run_convert_bytes_back (P := Try.prog) w 29 9 5 ⟨g, o, none⟩ c bs Try.underlying29 Try.underlying5 Try.underlying9 (fun j hj => by
        rw [Addr.add_mid]
        exact hr j _ (by simp [u8V, hj]))
    have z1 : ((bs.length : Int) == 0) = false := by rw [beq_eq_false_iff_ne]; omega
    have z1n : (bs.length == 0) = false := by rw [beq_eq_false_iff_ne]; exact hl
    rw [hd]
    have HB := Lib.hid (bW w (.cells #[.string (txt bs), .int .i64 (-1)] 109))
    have HV := Lib.hid (show (w.alloc (.cells #[.string (txt bs), .int .i64 (-1)] 109)).ownsRow B 109 2 v ps.length (pcsV ps) from ownsRow_turned hv (Turned.of_below (S := fun _ => False) HB.out) (fun _ _ h => h))
    have HR := Lib.hid (show RawAt (w.alloc (.cells #[.string (txt bs), .int .i64 (-1)] 109)) (some ⟨w.heap.size, 0, none⟩) (pcsV [(txt bs, -1)]) from raw_new w [.string (txt bs), .int .i64 (-1)] 109)
    have HN := Lib.hid (show ps.length + 1 ≤ 1099511627776 ∧ B ≤ (w.alloc (.cells #[.string (txt bs), .int .i64 (-1)] 109)).heap.size by rw [World.size_alloc]; omega)
    have HS := Lib.hid (World.size_alloc w (.cells #[.string (txt bs), .int .i64 (-1)] 109))
    clear hA hr hd h0 hl hv hB hn
    go_enter Try.func65, Try.ntmps65
    go_wp2_with (refine wpList_append_raw 14 (pcsV [(txt bs, -1)]) elem_piece HV.out HR.out rfl oneCell_pcs rfl rfl HN.out.1 HN.out.2 ?_)
    intro v' w' hv' ht hk
    have HF := Lib.hid (And.intro hv' (And.intro ht hk))
    clear hv' ht hk
    go_wp2_with fail
    go_ret
    refine ⟨_, rfl, ?_, (Turned.of_below HB.out).trans HF.out.2.1 (fun _ _ h => h), fun k hk => ?_⟩
    · unfold PcOwn
      rw [List.length_append, pcsV_append]
      exact HF.out.1
    · rcases HF.out.2.2 k hk with h | h
      · exact .inl h
      · exact .inr (by have := HS.out; omega)
end Go.Proofs.Ytncbmdbfdjhkeaa

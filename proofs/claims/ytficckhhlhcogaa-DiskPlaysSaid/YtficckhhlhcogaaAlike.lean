/-
  The law's 'alike': the disk tells what the reference's does. Conditions: both lie in memory, with the same calls, and each block of one has what the other's has.
-/
import Derived.Test.YtficckhhlhcogaaRef5
namespace Go.Proofs.Ytficckhhlhcogaa
open Go.RowKit Go.Maps

set_option maxRecDepth 100000 in
set_option maxHeartbeats 2000000 in
theorem alike_any (p bf bs : Nat) (v : Value) (n kf : Nat) (F S : Int → Option (List UInt8)) (cs : List CallM) (Y : Nat → Prop) (q : Nat) (vB vL : Value) (B : Int → List UInt8) (w : World)
    (h : DiskIs w p bf bs v n kf F S cs) (hm : RefIs w Y q n vB vL B cs) (hn : n ≤ 65536) (hF : Blocks32 F) (hS : Blocks32 S) (hc : cs.length ≤ 1073741824) (hag : ∀ x : Nat, x < n → rdTo B cs (x : Int) cs.length = rd F S (x : Int)) :
    Calls Try.prog 16 #[.pointer (some ⟨p, 0, none⟩), .pointer (some ⟨q, 0, none⟩)] w (TrueIs w) := by
  have hd := Lib.hid h
  have hr := Lib.hid hm
  have HAG := Lib.hid hag
  obtain ⟨A5, cap5, rfl, _, _, _, _, _⟩ := h.slice
  obtain ⟨hbox, _, ⟨rows, hL, hLs⟩⟩ := hm
  obtain ⟨LA, lcap, rfl, _⟩ := ref_calls hL hLs
  have z0 : w.cell? ⟨q, 0, none⟩ = some (.int .i64 (n : Int)) := cell_of_row _ _ 0 _ _ _ hbox
  have z2 : w.cell? ⟨q, 2, none⟩ = some (.slice LA cs.length lcap) := cell_of_row _ _ 2 _ _ _ hbox
  have lq := World.block_lt_of_cell? w _ z0
  have HBK : Hid (Calls Try.prog 19 #[.pointer (some ⟨p, 0, none⟩)] w.drew fun e w' => e = .returned (.int .i64 (n : Int)) ∧ w.drew = w') := blocks_is p n w.drew h.cell0
  have HCA : Hid (Calls Try.prog 17 #[.pointer (some ⟨p, 0, none⟩)] w.drew fun e w' => e = .returned (.int .i64 (cs.length : Int)) ∧ w.drew = w') := calls_is p cs.length cap5 A5 w.drew h.cell3
  clear h hbox hL hLs hag
  go_enter Try.func16, Try.ntmps16
  go_wp2_with fail
  go_region_held3 (fun x => x.cell? ⟨q, 0, none⟩ = some (.int .i64 (n : Int)) ∧ x.cell? ⟨q, 2, none⟩ = some (.slice LA cs.length lcap))
    ((go_split_ands; refine ⟨?_, ?_⟩ <;> first | assumption | exact z0 | exact z2))
    (first
      | (go_at_call 19; (with_reducible refine HBK.out.mono ?_); rintro e w' ⟨rfl, rfl⟩)
      | (go_at_call 17; (with_reducible refine HCA.out.mono ?_); rintro e w' ⟨rfl, rfl⟩))
  go_wp2_with fail
  go_loopw [5] (fun ii wr => ∃ k : Nat, ii = .int .i64 (k : Int) ∧ k ≤ n + 1 ∧ Below w.heap.size w wr) (fun ii _ => n + 1 - (intOf ii).toNat)
  case atStart => exact ⟨0, rfl, Nat.zero_le _, (Below.refl _ w).drew⟩
  case round =>
    obtain ⟨k, rfl, hk, hb⟩ := hrel
    have zr0 : wr.cell? ⟨q, 0, none⟩ = some (.int .i64 (n : Int)) := (hb.cell (p := ⟨q, 0, none⟩) lq).trans z0
    rcases Nat.lt_trichotomy k n with hkn | hkn | hkn
    · have hki : (k : Int) ≤ (n : Int) := by omega
      have hk0 : (0 : Int) ≤ (k : Int) := by omega
      have hR := read_in p bf bs _ n kf F S cs (k : Int) wr (hd.out.turned (Turned.of_below (S := fun _ => False) hb) (fun _ _ h => h)) hk0 (by omega) hn (fun l h => hF _ l h) (fun l h => hS _ l h)
      have HR := Lib.hid hR
      have HB := Lib.hid hb
      clear hR hb
      go_wp2_with fail
      go_at_call 18
      (with_reducible refine HR.out.mono ?_)
      rintro e w8 ⟨ga, rfl, hga, hla, hb8⟩
      have hb9 : Below w.heap.size w w8 := HB.out.trans (hb8.mono HB.out.size)
      have hR2 := ref_read Y q n vB (.slice LA cs.length lcap) B cs (k : Int) w8 (hr.out.turned (Turned.of_below (S := fun _ => False) hb9) (fun _ _ h => h) (fun _ _ h => h)) hk0 (by omega) hn hc
      rw [HAG.out k hkn] at hR2
      have HR2 := Lib.hid hR2
      have HGA := Lib.hid hga
      have HB9 := Lib.hid hb9
      clear hR2 hga hb9 hb8
      go_wp2_with fail
      go_at_call 28
      (with_reducible refine HR2.out.mono ?_)
      rintro e w9 ⟨_, rfl, ⟨A2, cap2, rfl, hb2, hl2, _⟩, rfl⟩
      have hsame := same_eq (some ⟨ga, 0, none⟩) A2 _ 32 cap2 w8 (bytesAt_blk HGA.out) hb2 (by omega)
      rw [hl2] at hsame
      have HSM := Lib.hid hsame
      clear hsame hb2 hl2
      go_wp2_with fail
      go_at_call 29
      (with_reducible refine HSM.out.mono ?_)
      rintro e w10 ⟨rfl, rfl⟩
      go_wp2_with fail
      go_roundw
      case rel => exact ⟨k + 1, by go_num, by omega, HB9.out⟩
      case measure => simp [intOf]; omega
    · have hki : (k : Int) ≤ (n : Int) := by omega
      have hR := read_out p n (k : Int) wr ((hd.out.turned (Turned.of_below (S := fun _ => False) hb) (fun _ _ h => h)).cell0) (.inr (by omega))
      have hR2 := ref_read_out q n (k : Int) wr zr0 (.inr (by omega))
      have HR := Lib.hid hR
      have HR2 := Lib.hid hR2
      have HSM := Lib.hid (same_nil wr)
      have HB := Lib.hid hb
      have HKN := Lib.hid hkn
      clear hR hR2 hb hkn
      go_wp2_with fail
      go_at_call 18
      (with_reducible refine HR.out.mono ?_)
      rintro e w8 ⟨rfl, rfl⟩
      go_wp2_with fail
      go_at_call 28
      (with_reducible refine HR2.out.mono ?_)
      rintro e w9 ⟨rfl, rfl⟩
      go_wp2_with fail
      go_at_call 29
      (with_reducible refine HSM.out.mono ?_)
      rintro e w10 ⟨rfl, rfl⟩
      go_wp2_with fail
      go_roundw
      case rel => exact ⟨k + 1, by go_num, by have := HKN.out; omega, HB.out⟩
      case measure => have := HKN.out; simp [intOf]; omega
    · have hki : (n : Int) < (k : Int) := by omega
      have HB := Lib.hid hb
      clear hb
      go_wp2_with fail
      go_ret
      exact ⟨rfl, HB.out⟩
end Go.Proofs.Ytficckhhlhcogaa

/-
 ReplaceBetween, the pure part; and its helper part. No condition.
-/
import Derived.Test.YtflkfleihlceeaaGreatDoorR18
import Derived.Deep.Cut
import Derived.BigQuiet
import Derived.Deep.QuietTactic
import Derived.Lib.QuietBelow
namespace Go.Proofs.YtflkfleihlceeaaGreatDoor
open Go.RowKit Go.Deep Go.Shelf

theorem none_fill (s : ByteArray) (sp : Sp) : fillF s [] sp = [] := by simp [fillF, flatB]
theorem rep_nones {t : PN} {s : ByteArray} {c : Nat} {all : Bool} {w w' : World} {e : Ending} {ms : List Sp} (h : RepAns t [] s (c : Int) all w e w') (hc : 1 <= c) (hs : s.size <= 12) (hm : MatL s.data.toList t 0 (-1) ms) : Below w.heap.size w w' /\ e = .returned (.tuple #[.string (txt (repF s.data.toList (fillF s []) 0 (choP c all ms))), .int .i64 ((choP c all ms).length : Int), .int .i64 0]) := by
 obtain ⟨hb, h⟩ := h;refine ⟨hb, ?_⟩;have hl : s.data.toList.length = s.size := (by simp);rcases h with ⟨h, _⟩ | ⟨_, h, _⟩ | ⟨_, _, ms2, hm2, h⟩
 ·omega
 ·omega
 ·rw [matL_det hm2 hm] at h;have h' : ((repF s.data.toList (fillF s []) 0 (choP c all ms)).length <= 1024 /\ e = .returned (.tuple #[.string (txt (repF s.data.toList (fillF s []) 0 (choP c all ms))), .int .i64 ((choP c all ms).length : Int), .int .i64 0])) \/ (1024 < (repF s.data.toList (fillF s []) 0 (choP c all ms)).length /\ e = .returned (.tuple #[.string ⟨#[]⟩, .int .i64 0, .int .i64 161])) := h;have ho : OrdL s.data.toList 0 (choP c all ms) := choP_ord (matL_ord hm 0 (by omega) (Nat.zero_le _));have h1 := rep_len (f := fillF s []) (K := 0) ho (fun sp _ => by rw [none_fill]; exact nlr _);rcases h' with ⟨_, h⟩ | ⟨h, _⟩
  ·exact h
  ·omega
theorem rep_sub {T : List UInt8} {s : ByteArray} : ∀ {l : List Sp} {k : Nat}, OrdL T k l -> (repF T (fillF s []) k l).Sublist (T.drop k)
 | [], _, _ => List.Sublist.refl _
 | sp :: r, k, h => by
  obtain ⟨i, z, h0, h1, h2, h3, h4⟩ := h;have e1 : (sp 0).1.toNat = i := (by rw [h0]; simp);have e2 : (sp 0).2.toNat = z := (by rw [h0]; simp);unfold repF;rw [e1, e2, none_fill, List.nil_append]
  have s2 : (T.take i).drop k ++ T.drop i = T.drop k := by
   have h : T.drop k = (T.take i ++ T.drop i).drop k := (by rw [List.take_append_drop]);rw [h, List.drop_append_of_le_length (by simp; omega)]
  rw [<- s2];refine List.Sublist.append (List.Sublist.refl _) ((rep_sub h4).trans ?_);have e3 : T.drop z = (T.drop i).drop (z - i) := (by rw [List.drop_drop]; congr 1; omega);rw [e3];exact List.drop_sublist _ _
theorem between_some {T : List UInt8} {s : ByteArray} {t : PN} {sp : Sp} {ms : List Sp} (hm : MatL T t 0 (-1) ms) (hf : FindR T true t 0 true sp) : ∃ i z : Nat, sp 0 = ((i : Int), (z : Int)) /\ i <= z /\ z <= T.length /\ (choP 1 false ms).length = 1 /\ 0 < (choP 1 true ms).length ∧
  repF T (fillF s []) 0 (choP 1 false ms) = T.take i ++ T.drop z /\ ∃ R, repF T (fillF s []) 0 (choP 1 true ms) = T.take i ++ R /\ R.Sublist (T.drop z) := by
 obtain ⟨i, z, h0, h1, h2, h3, _⟩ := findR_in hf;rcases matL_true hm hf with ⟨_, l', rfl, hl'⟩ | ⟨h, _⟩
 ·have ho := matL_ord hl' z (by rw [h0]; simp only; omega) h3;have e1 : (sp 0).1.toNat = i := (by rw [h0]; simp);have e2 : (sp 0).2.toNat = z := (by rw [h0]; simp);refine ⟨i, z, h0, h2, h3, rfl, Nat.succ_pos _, ?_, repF T (fillF s []) z l', ?_, rep_sub ho⟩
  ·show (T.take (sp 0).1.toNat).drop 0 ++ (fillF s [] sp ++ T.drop (sp 0).2.toNat) = _;rw [e1, e2, none_fill];rfl
  ·show (T.take (sp 0).1.toNat).drop 0 ++ (fillF s [] sp ++ repF T (fillF s []) (sp 0).2.toNat l') = _;rw [e1, e2, none_fill];rfl
 ·rw [h0] at h;exact absurd (by show (-1 : Int) < (z : Int); omega) h
theorem txt_at {l : List UInt8} {k : Nat} (h : k < l.length) (hk : k < (txt l).size) : (txt l)[k]'hk = l[k]'h := by
 show (txt l).data[k]'hk = l[k]'h;simp [txt]
set_option maxRecDepth 100000 in
set_option maxHeartbeats 4000000 in
theorem part_is {a b : List UInt8} (hs : a.Sublist b) (hb : b.length <= 1024) (w : World) : Calls Tryz.prog 23 #[.string (txt a), .string (txt b)] w fun e w' => e = .returned (.bool true) /\ ∃ n, w' = w.drewN n := by
 have HS := lh (show (0 : Nat) <= a.length /\ (0 : Nat) <= b.length /\ (a.drop 0).Sublist (b.drop 0) /\ ∃ n, w = w.drewN n from ⟨Nat.zero_le _, Nat.zero_le _, hs, 0, rfl⟩);have HL := lh (aI hs.length_le hb);have hza := size_txt a;have hzb := size_txt b;have HZ := lh (aI hza hzb);obtain ⟨A, hA⟩ : ∃ A, A = txt a := ⟨_, rfl⟩;obtain ⟨B, hB⟩ : ∃ B, B = txt b := ⟨_, rfl⟩;rw [<- hA, <- hB];rw [<- hA] at hza;rw [<- hB] at hzb;have HAB := lh (show (∀ (j : Nat) (h : j < a.length) (h' : j < A.size), A[j]'h' = a[j]'h) /\ (∀ (j : Nat) (h : j < b.length) (h' : j < B.size), B[j]'h' = b[j]'h) from ⟨fun j h h' => by subst hA; exact txt_at h h', fun j h h' => by subst hB; exact txt_at h h'⟩);clear hs hb HZ hA hB;go_enter Tryz.func23, Tryz.ntmps23;go_wp2_with fail;go_loopw [5, 6] (fun iv kv wz => ∃ i k : Nat, iv = .int .i64 (i : Int) /\ kv = .int .i64 (k : Int) /\ Hid (i <= a.length /\ k <= b.length /\ (a.drop i).Sublist (b.drop k) /\ ∃ n, wz = w.drewN n)) (fun _ kv _ => b.length + 1 - (intOf kv).toNat)
 case atStart => exact ⟨0, 0, rfl, rfl, HS⟩
 case round =>
  clear HS;obtain ⟨i, k, rfl, rfl, HJ⟩ := hrel;obtain ⟨hi, hk, hsub, hn⟩ := HJ.out;have hL := HL.out;by_cases h1 : k < b.length
  case neg =>
   have hd : decide ((k : Int) < (B.size : Int)) = false := dqf (by omega);have hdn : decide (k < B.size) = false := dqf (by omega);have hll : (B.size : Int) <= (k : Int) := (by omega)
   have hie : i = A.size := by
    have h3 := hsub.length_le;simp only [List.length_drop] at h3;omega
   subst hie;have HN := lh hn;clear hi hk hsub hn h1 hL hza hzb;go_wp2_with fail;go_ret;exact ⟨by simp, HN.out⟩
  case pos =>
   have hd : decide ((k : Int) < (B.size : Int)) = true := dqt (by omega);have hdn : decide (k < B.size) = true := dqt (by omega);have hkI : (k : Int) < (B.size : Int) := (by omega);by_cases h2 : i < a.length
   case neg =>
    have hd2 : decide ((i : Int) < (A.size : Int)) = false := dqf (by omega);have hd2n : decide (i < A.size) = false := dqf (by omega);have hie : i = A.size := (by omega);subst hie;have HN := lh hn;clear hi hk hsub hn h1 h2 hL hza hzb;go_wp2_with fail;go_ret;exact ⟨by simp, HN.out⟩
   case pos =>
    have hd2 : decide ((i : Int) < (A.size : Int)) = true := dqt (by omega);have hd2n : decide (i < A.size) = true := dqt (by omega);have hiI : (i : Int) < (A.size : Int) := (by omega);have hiA : i < A.size := (by omega);have hkB : k < B.size := (by omega);have hi1 : IntKind.i64.wrap ((i : Int) + 1) = ((i + 1 : Nat) : Int) := (by rw [IntWalk.i64_in _ (by omega)]; omega);have hk1 : IntKind.i64.wrap ((k : Int) + 1) = ((k + 1 : Nat) : Int) := (by rw [IntWalk.i64_in _ (by omega)]; omega);obtain ⟨x, hx⟩ : ∃ x, x = a[i]'h2 := ⟨_, rfl⟩;obtain ⟨y, hy⟩ : ∃ y, y = b[k]'h1 := ⟨_, rfl⟩;have ex : A[i]'hiA = x := (by rw [hx]; exact HAB.out.1 i h2 hiA);have ey : B[k]'hkB = y := (by rw [hy]; exact HAB.out.2 k h1 hkB);rw [List.drop_eq_getElem_cons h2, List.drop_eq_getElem_cons h1, <- hx, <- hy] at hsub;obtain ⟨i1, hi1e⟩ : ∃ i1, i1 = i + 1 := ⟨_, rfl⟩;obtain ⟨k1, hk1e⟩ : ∃ k1, k1 = k + 1 := ⟨_, rfl⟩;rw [<- hi1e] at hi1 hsub;rw [<- hk1e] at hk1 hsub;have HK := lh (aI hk1e (aI h1 hL.2));by_cases hxy : x = y
    ·have ge : ((x.toNat : Int) == (y.toNat : Int)) = true := (by rw [hxy]; simp)
     have HN := lh (show i1 <= a.length /\ k1 <= b.length /\ (a.drop i1).Sublist (b.drop k1) from ⟨by omega, by omega, by
      rw [hxy] at hsub
      exact List.cons_sublist_cons.1 hsub⟩)
     have HM := lh hn;clear hi hk hsub hn h1 h2 hL hza hzb hx hy hi1e hk1e hxy;go_upto_region 5 with fail;go_quiet (fail);go_wp2_with fail;go_roundw
     case rel =>
      obtain ⟨n, hn⟩ := HM.out;exact ⟨i1, k1, rfl, rfl, lh ⟨HN.out.1, HN.out.2.1, HN.out.2.2, n + nq, by rw [hn, World.drewN_drewN]⟩⟩
     case measure => have := HK.out; simp [intOf]; omega
    ·have ge : ((x.toNat : Int) == (y.toNat : Int)) = false := by
      rw [beq_eq_false_iff_ne];intro e;exact hxy (UInt8.toNat_inj.1 (by omega))
     have HN := lh (show i <= a.length /\ k1 <= b.length /\ (a.drop i).Sublist (b.drop k1) from ⟨hi, by omega, by
      rw [List.drop_eq_getElem_cons h2, <- hx, <- hi1e];cases hsub with
      | cons _ h => exact h
      | cons_cons _ h => exact absurd rfl hxy⟩)
     have HM := lh hn;clear hi hk hsub hn h1 h2 hL hza hzb hx hy hi1e hk1e hxy;go_upto_region 5 with fail;go_quiet (fail);go_wp2_with fail;go_roundw
     case rel =>
      obtain ⟨n, hn⟩ := HM.out;exact ⟨i, k1, rfl, rfl, lh ⟨HN.out.1, HN.out.2.1, HN.out.2.2, n + nq, by rw [hn, World.drewN_drewN]⟩⟩
     case measure => have := HK.out; simp [intOf]; omega
end Go.Proofs.YtflkfleihlceeaaGreatDoor

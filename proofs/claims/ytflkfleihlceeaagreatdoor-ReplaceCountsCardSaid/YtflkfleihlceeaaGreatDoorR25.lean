/-
 ReplaceCounts, walked. Conditions: the world holds what strings.Index asks, and de Bruijn's table.
-/
import Derived.Test.YtflkfleihlceeaaGreatDoorR24
import Derived.Deep.Cut
namespace Go.Proofs.YtflkfleihlceeaaGreatDoor
open Go.RowKit Go.Deep Go.Sort

set_option maxRecDepth 100000 in
theorem a_parse2 (bk : BkF) : parseP bk false [97] = some (litN 97) := by kernel_rfl
theorem txt_app (a b : List UInt8) : txt a ++ txt b = txt (a ++ b) := by
 have : (txt a ++ txt b).data = (txt (a ++ b)).data := (by simp [txt, ByteArray.data_append]);cases h : txt a ++ txt b
 rw [h] at this;simp only at this;rw [this]
theorem txt_list (b : List UInt8) : (txt b).toList = b := by rw [ByteArray.toList_eq]; rfl
theorem byte_list {S : ByteArray} {k : Nat} (h : k < S.size) : S.data.toList[k]? = some (S[k]'h) := by
 show S.data.toList[k]? = some (S.data[k]'h);rw [Array.getElem?_toList];exact Array.getElem?_eq_getElem h
set_option maxRecDepth 100000 in
set_option maxHeartbeats 16000000 in
theorem counts_any (S B : ByteArray) (cz : Int) (w : World) (hM : MaxAt w) (hD : DebAt w) : Calls Tryz.prog 13 #[.string S, .string B, .int .i64 cz] w (TrueC w) := by
 have HA := lh fun (W : World) (hW : Below w.heap.size w W) => alive11_is W (hM.below hW) (hD.below hW);have HP := lh (parse_some (s := ⟨#[97]⟩) (ext := false) (t := litN 97) (a_parse2 bkOf) w hM);have HD := lh hD;clear hM hD;go_enter Tryz.func13, Tryz.ntmps13;by_cases h1 : 60 < S.size
 ·have g1 : decide ((60 : Int) < (S.size : Int)) = true := dqt (by omega);have g1n : decide (60 < S.size) = true := dqt h1;clear h1;go_wp2_with fail;go_at_call 21;with_reducible refine (HA.out _ (Below.refl _ _)).mono ?_
  rintro e wz ⟨rfl, hb⟩;go_wp2_with fail;go_ret;exact ⟨rfl, hb⟩
 have g1 : decide ((60 : Int) < (S.size : Int)) = false := dqf (by omega);have g1n : decide (60 < S.size) = false := dqf h1;by_cases h2 : 9 < B.size
 ·have g2 : decide ((9 : Int) < (B.size : Int)) = true := dqt (by omega);have g2n : decide (9 < B.size) = true := dqt h2;clear h2;go_wp2_with fail;go_at_call 21;with_reducible refine (HA.out _ (Below.refl _ _)).mono ?_
  rintro e wz ⟨rfl, hb⟩;go_wp2_with fail;go_ret;exact ⟨rfl, hb⟩
 have g2 : decide ((9 : Int) < (B.size : Int)) = false := dqf (by omega);have g2n : decide (9 < B.size) = false := dqf h2;by_cases h3 : cz < 1
 ·have g3 : decide (cz < 1) = true := dqt h3;clear h3;go_wp2_with fail;go_at_call 21;with_reducible refine (HA.out _ (Below.refl _ _)).mono ?_
  rintro e wz ⟨rfl, hb⟩;go_wp2_with fail;go_ret;exact ⟨rfl, hb⟩
 have g3 : decide (cz < 1) = false := dqf h3;by_cases h4 : 70 < cz
 ·have g4 : decide (70 < cz) = true := dqt h4;clear h4;go_wp2_with fail;go_at_call 21;with_reducible refine (HA.out _ (Below.refl _ _)).mono ?_
  rintro e wz ⟨rfl, hb⟩;go_wp2_with fail;go_ret;exact ⟨rfl, hb⟩
 have g4 : decide (70 < cz) = false := dqf h4;obtain ⟨c, rfl⟩ : ∃ c : Nat, cz = (c : Int) := ⟨cz.toNat, by omega⟩;have HS := lh (show S.size <= 60 /\ B.size <= 9 /\ 1 <= c /\ c <= 70 by omega);clear h1 h2 h3 h4;go_wp2_with fail;clear g1 g1n g2 g2n g3 g4;go_loopw [7] (fun iv wz => ∃ m : Nat, iv = .int .i64 (m : Int) /\ Hid (m <= B.size /\ ∀ x ∈ B.data.toList.take m, x ≠ 38 /\ x ≠ 92) /\ wz = w) (fun iv _ => B.size + 1 - (intOf iv).toNat)
 case atStart => exact ⟨0, rfl, lh ⟨Nat.zero_le _, fun x hx => by simp at hx⟩, rfl⟩
 case round =>
  obtain ⟨m, rfl, HJ, hwe⟩ := hrel;replace hwe := hwe.symm;subst hwe;have hle := HJ.out.1;by_cases hlt : m < B.size
  case pos =>
   have hb := HS.out.2.1;have d1 : decide ((m : Int) < (B.size : Int)) = true := dqt (by omega);have d1n : decide (m < B.size) = true := dqt hlt;have d1p : (m : Int) < (B.size : Int) := (by omega);have hadd : IntKind.i64.wrap ((m : Int) + 1) = ((m + 1 : Nat) : Int) := (by rw [IntWalk.i64_in _ (by omega)]; omega);obtain ⟨m1, hm1⟩ : ∃ m1, m1 = m + 1 := ⟨_, rfl⟩;rw [<- hm1] at hadd;obtain ⟨x, hx⟩ : ∃ x, B[m]'hlt = x := ⟨_, rfl⟩;have hget := byte_list hlt;rw [hx] at hget;by_cases k1 : x.toNat < 97
   ·have e1 : decide ((x.toNat : Int) < 97) = true := dqt (by omega);have e1n : decide (x.toNat < 97) = true := dqt k1;clear hle hm1 hget k1 hadd hb;go_wp2_with fail;go_at_call 21;with_reducible refine (HA.out _ (Below.refl _ _)).mono ?_
    rintro e wz ⟨rfl, hb⟩;go_wp2_with fail;go_ret;exact ⟨rfl, hb⟩
   have e1 : decide ((x.toNat : Int) < 97) = false := dqf (by omega);have e1n : decide (x.toNat < 97) = false := dqf k1;by_cases k2 : 122 < x.toNat
   ·have e2 : decide ((122 : Int) < (x.toNat : Int)) = true := dqt (by omega);have e2n : decide (122 < x.toNat) = true := dqt k2;clear hle hm1 hget k1 k2 hadd hb;go_wp2_with fail;go_at_call 21;with_reducible refine (HA.out _ (Below.refl _ _)).mono ?_
    rintro e wz ⟨rfl, hb⟩;go_wp2_with fail;go_ret;exact ⟨rfl, hb⟩
   have e2 : decide ((122 : Int) < (x.toNat : Int)) = false := dqf (by omega);have e2n : decide (122 < x.toNat) = false := dqf k2
   have HN := lh (show m1 <= B.size /\ ∀ z ∈ B.data.toList.take m1, z ≠ 38 /\ z ≠ 92 from ⟨by omega, fun z hz => by
    rw [hm1, List.take_add_one, hget, List.mem_append] at hz;rcases hz with hz | hz
    ·exact HJ.out.2 z hz
    ·simp at hz;subst hz
     exact ⟨fun e => by rw [e] at k1; exact k1 (by decide), fun e => by rw [e] at k1; exact k1 (by decide)⟩⟩)
   have HM := lh (aI hm1 hlt);clear hle hm1 hget k1 k2 hb;go_wp2_with fail;go_roundw
   case rel => exact ⟨m1, rfl, HN, trivial⟩
   case measure => have := HM.out; simp [intOf]; omega
  case neg =>
   have d1 : decide ((m : Int) < (B.size : Int)) = false := dqf (by omega);have d1n : decide (m < B.size) = false := dqf hlt;have d1p : (B.size : Int) <= (m : Int) := (by omega);obtain ⟨g, hg⟩ : ∃ g, g = B.data.toList := ⟨_, rfl⟩;have hBg : B = txt g := (by rw [hg, txt_of]);have hgl : g.length = B.size := (by rw [hg]; simp);have hlow : ∀ x ∈ g, x ≠ 38 /\ x ≠ 92 := fun x hx => HJ.out.2 x (by rw [<- hg, List.take_of_length_le (by omega)]; exact hx)
   have HTP := lh fun (W : World) => (tpl_is B (by have := HS.out; omega) W).mono (fun e w' h => show Below W.heap.size W w' /\ ∃ v, e = .returned (.tuple #[v, .int .i64 0]) /\ PcOwn w' W.heap.size v (withP [] g) from by
    unfold TplA at h;rw [<- hg, tpl_low g B.size [] [] hlow (by omega)] at h
    exact h)
   have HG := lh (aI hBg hgl);clear hle hlt hg hBg hgl hlow HJ;go_wp2_with fail;go_at_call 18;refine HP.out.mono ?_;rintro e w1 ⟨y, rfl, hy, hb1⟩;obtain ⟨W, hW⟩ : ∃ W, W = w1.alloc (.cells #[.int .i64 y.kind, .int .u64 (y.set 0), .int .u64 (y.set 1), .int .u64 (y.set 2), .int .u64 (y.set 3), .int .i64 y.lo, .int .i64 y.hi, .int .i64 y.num, .slice y.A y.n y.c] 28) := ⟨_, rfl⟩;obtain ⟨b1, hb1'⟩ : ∃ b, b = w1.heap.size := ⟨_, rfl⟩;have H1 := lh (show St w W [(b1, _, _)] [(litN 97, y)] from by rw [hW, hb1']; exact ((St.start w).next hb1 |>.tree hy).box _ _);rw [NV.v_eq];clear hy hb1 d1 d1n d1p;go_upto_region 9 with fail;rw [<- hW, <- hb1'];clear hW hb1';go_wp2_with fail;go_at_call 24;refine (HTP.out _).mono ?_;rintro e w2 ⟨hb2, v, rfl, hv⟩;obtain ⟨A2, c2, rfl, _, hraw, _⟩ := own_form hv;have H2 := lh (H1.out.next hb2);have HRW := lh hraw;obtain ⟨n, hn⟩ : ∃ n, n = (withP [] g).length := ⟨_, rfl⟩;rw [<- hn];have HNN := lh hn;clear hb2 hv hraw hn;obtain ⟨T, hT⟩ : ∃ T, T = S.data.toList := ⟨_, rfl⟩;have hST : S = txt T := (by rw [hT, txt_of]);have hTl : T.length = S.size := (by rw [hT]; simp);have HT := lh (aI hT (aI hST hTl));obtain ⟨cA, hcA⟩ : ∃ cA : Nat -> Bool, cA = fun _ => true := ⟨_, rfl⟩;obtain ⟨cO, hcO⟩ : ∃ cO : Nat -> Bool, cO = fun m => decide (m = c) := ⟨_, rfl⟩;have HCH := lh (aI hcA hcO);clear hT hST hTl hcA hcO;go_wp2_with fail;go_loopw [12, 13, 14, 15, 16] (fun av wv ov iv _ wz => ∃ i : Nat, iv = .int .i64 (i : Int) /\ av = .int .i64 (cntA (T.take i) : Int) /\ wv = .string (txt (outS cA g 0 (T.take i))) /\ ov = .string (txt (outS cO g 0 (T.take i))) /\ i <= S.size /\ wz = w2) (fun _ _ _ iv _ _ => S.size + 1 - (intOf iv).toNat)
   case atStart => exact ⟨0, rfl, rfl, rfl, rfl, Nat.zero_le _, rfl⟩
   case round =>
    obtain ⟨i, rfl, rfl, rfl, rfl, hi, hwe⟩ := hrel;replace hwe := hwe.symm;subst hwe;have hs60 := HS.out;have hTl := HT.out.2.2;obtain ⟨N, hN⟩ : ∃ N, N = cntA (T.take i) := ⟨_, rfl⟩;obtain ⟨U, hU⟩ : ∃ U, U = txt (outS cA g 0 (T.take i)) := ⟨_, rfl⟩;obtain ⟨O, hO⟩ : ∃ O, O = txt (outS cO g 0 (T.take i)) := ⟨_, rfl⟩;rw [<- hN, <- hU, <- hO];have hil : (T.take i).length <= 60 := (by rw [List.length_take]; omega);have hgl := HG.out.2;have hNl : N <= 60 := (by rw [hN]; exact Nat.le_trans (cntA_le _) hil);have hUs : U.size <= 600 := (by rw [hU, size_txt]; have := outS_len cA (g := g) (by omega) (T.take i) 0; omega);have hOs : O.size <= 600 := (by rw [hO, size_txt]; have := outS_len cO (g := g) (by omega) (T.take i) 0; omega);have hBs : B.size <= 9 := hs60.2.1;by_cases hlt : i < S.size
    case pos =>
     have d1 : decide ((i : Int) < (S.size : Int)) = true := dqt (by omega);have d1n : decide (i < S.size) = true := dqt hlt;have d1p : (i : Int) < (S.size : Int) := (by omega);have hadd : IntKind.i64.wrap ((i : Int) + 1) = ((i + 1 : Nat) : Int) := (by rw [IntWalk.i64_in _ (by omega)]; omega);have hNa : IntKind.i64.wrap ((N : Int) + 1) = ((N + 1 : Nat) : Int) := (by rw [IntWalk.i64_in _ (by omega)]; omega);obtain ⟨x, hx⟩ : ∃ x, T[i]? = some x := ⟨T[i]'(by omega), by simp⟩;have htk : T.take (i + 1) = T.take i ++ [x] := (by rw [List.take_add_one, hx]; rfl);have hNp := cntA_push (T.take i) x;have hUp := outS_push cA g x (T.take i) 0;have hOp := outS_push cO g x (T.take i) 0;rw [Nat.zero_add, <- hN] at hUp hOp;rw [<- hN] at hNp;obtain ⟨C, hC⟩ : ∃ C, C = txt [x] := ⟨_, rfl⟩
     have hCe : S.extract i (i + 1) = C := by
      rw [HT.out.2.1, txt_extract, htk, List.drop_append_of_le_length (by rw [List.length_take]; omega), List.drop_eq_nil_of_le (by rw [List.length_take]; exact Nat.min_le_left _ _), hC];rfl
     have hCl : C.toList = [x] := (by rw [hC, txt_list]);have hCs : C.size <= 1 := (by rw [hC, size_txt]; exact nlr _);obtain ⟨i1, hi1⟩ : ∃ i1, i1 = i + 1 := ⟨_, rfl⟩;rw [<- hi1] at hadd htk hCe;have gi0 : (0 : Int) <= (i : Int) := (by omega);have gi1 : (i : Int) <= (i1 : Int) := (by omega);have gi2 : (i1 : Int) <= (S.size : Int) := (by omega);have gn1 : i <= i1 := (by omega);have gn2 : i1 <= S.size := (by omega);have HI := lh (aI hi1 hlt);by_cases hxa : x = 97
     ·subst hxa;have q1 : (C.toList == [97]) = true := (by rw [hCl]; rfl);have q2 : (C.toList != [97]) = false := (by rw [hCl]; rfl);simp only [if_true] at hNp hUp hOp;obtain ⟨N1, hN1⟩ : ∃ N1, N1 = N + 1 := ⟨_, rfl⟩;rw [<- hN1] at hNa hUp hOp hNp
      have hUB : U ++ B = txt (outS cA g 0 (T.take i1)) := by
       rw [htk, hUp, HCH.out.1, if_pos rfl, hU, HG.out.1, txt_app, HCH.out.1]
      obtain ⟨U1, hU1⟩ : ∃ U1, U1 = txt (outS cA g 0 (T.take i1)) := ⟨_, rfl⟩;rw [<- hU1] at hUB;by_cases hnc : N1 = c
      ·have q3 : ((N1 : Int) == (c : Int)) = true := (by rw [hnc]; simp)
       have hOB : O ++ B = txt (outS cO g 0 (T.take i1)) := by
        rw [htk, hOp, HCH.out.2, if_pos (dqt hnc), hO, HG.out.1, txt_app, HCH.out.2]
       obtain ⟨O1, hO1⟩ : ∃ O1, O1 = txt (outS cO g 0 (T.take i1)) := ⟨_, rfl⟩;rw [<- hO1] at hOB;have HF := lh (aI hU1 (aI hO1 (show N1 = cntA (T.take i1) by rw [htk, hNp])));clear hnc;clear hi hs60 hTl hN hU hO hil hgl hNl hlt hx htk hNp hUp hOp hC hi1 hU1 hO1 hN1;go_wp2_with fail;go_roundw
       case rel => exact ⟨i1, rfl, by rw [<- HF.out.2.2], by rw [<- HF.out.1], by rw [<- HF.out.2.1], by have := HI.out; omega, trivial⟩
       case measure => have := HI.out; simp [intOf]; omega
      ·have q3 : ((N1 : Int) == (c : Int)) = false := (by rw [beq_eq_false_iff_ne]; omega);have hnI : ¬ (N1 : Int) = (c : Int) := (by omega)
       have hOB : O ++ C = txt (outS cO g 0 (T.take i1)) := by
        rw [htk, hOp, HCH.out.2, if_neg (by simp [hnc]), hO, hC, txt_app, HCH.out.2]
       obtain ⟨O1, hO1⟩ : ∃ O1, O1 = txt (outS cO g 0 (T.take i1)) := ⟨_, rfl⟩;rw [<- hO1] at hOB;have HF := lh (aI hU1 (aI hO1 (show N1 = cntA (T.take i1) by rw [htk, hNp])));clear hi hs60 hTl hN hU hO hil hgl hNl hlt hx htk hNp hUp hOp hC hi1 hU1 hO1 hN1 hnc;go_wp2_with fail;go_roundw
       case rel => exact ⟨i1, rfl, by rw [<- HF.out.2.2], by rw [<- HF.out.1], by rw [<- HF.out.2.1], by have := HI.out; omega, trivial⟩
       case measure => have := HI.out; simp [intOf]; omega
     ·have q1 : (C.toList == [97]) = false := (by rw [hCl, beq_eq_false_iff_ne]; simpa using hxa);have q2 : (C.toList != [97]) = true := (by rw [hCl, bne_iff_ne]; simpa using hxa);simp only [if_neg hxa] at hNp hUp hOp;have hUC : U ++ C = txt (outS cA g 0 (T.take i1)) := (by rw [htk, hUp, hU, hC, txt_app]);have hOC : O ++ C = txt (outS cO g 0 (T.take i1)) := (by rw [htk, hOp, hO, hC, txt_app]);obtain ⟨U1, hU1⟩ : ∃ U1, U1 = txt (outS cA g 0 (T.take i1)) := ⟨_, rfl⟩;obtain ⟨O1, hO1⟩ : ∃ O1, O1 = txt (outS cO g 0 (T.take i1)) := ⟨_, rfl⟩;rw [<- hU1] at hUC;rw [<- hO1] at hOC;have HF := lh (aI hU1 (aI hO1 (show N = cntA (T.take i1) by rw [htk, hNp]; rfl)));have hxa2 : (x == 97) = false := (by rw [beq_eq_false_iff_ne]; exact hxa);clear hi hs60 hTl hN hU hO hil hgl hNl hlt hx htk hNp hUp hOp hC hi1 hU1 hO1 hNa;go_wp2_with fail;go_roundw
      case rel => exact ⟨i1, rfl, by rw [<- HF.out.2.2], by rw [<- HF.out.1], by rw [<- HF.out.2.1], by have := HI.out; omega, trivial⟩
      case measure => have := HI.out; simp [intOf]; omega
    case neg =>
     have d1 : decide ((i : Int) < (S.size : Int)) = false := dqf (by omega);have d1n : decide (i < S.size) = false := dqf hlt;have d1p : (S.size : Int) <= (i : Int) := (by omega);have htk : T.take i = T := List.take_of_length_le (by omega);rw [htk] at hN hU hO;have HF := lh (aI hN (aI hU (aI hO (show T.length <= 60 /\ g.length <= 9 by omega))));clear hi hs60 hTl hN hU hO hil hgl hNl hlt hUs hOs hBs htk;have HRA := lh (show ∀ W, Below w2.heap.size w2 W -> RawAt W A2 (pcsV (withP [] g)) from fun W hW => HRW.out.below hW);obtain ⟨e0, e1, e2, e3, e4, e5, e6, e7, e8⟩ := node_box (H2.out.ob 0 rfl);have hle := lts (H2.out.ob 0 rfl);have hre := replace_is (w := w2) (t := litN 97) (y := y) (xs := withP [] g) (A := A2) (cl := c2) (s := S) 1 true (H2.out.tr 0 rfl) (HD.out.below H2.out.bel) (by decide) HRW.out (Nat.le_trans (withP_len [] g) (by decide));rw [NV.v_eq, <- HNN.out] at hre;have HR := lh hre;clear hre;go_wp2_with fail;go_at_call 22;refine HR.out.mono ?_;intro e w3 h3;rw [HT.out.2.1] at h3;obtain ⟨hb3, rfl⟩ := counts_rep (c := 1) h3 (nlr _) (fun _ => rfl) HF.out.2.2.2.1 HF.out.2.2.2.2;have z1 : txt (outS (if true = true then fun _ => true else fun m => decide (m = 1)) g 0 T) = U := (by rw [HF.out.2.1, HCH.out.1]; rfl);have z2 : ((if true = true then cntA T else if 1 <= cntA T then 1 else 0 : Nat) : Int) = (N : Int) := (by rw [HF.out.1]; rfl);rw [z1, z2];have H3 := lh (H2.out.next hb3);have HR3 := lh (HRA.out _ hb3);clear h3 hb3 z1 z2 HR e0 e1 e2 e3 e4 e5 e6 e7 e8 hle;obtain ⟨e0, e1, e2, e3, e4, e5, e6, e7, e8⟩ := node_box (H3.out.ob 0 rfl);have hle := lts (H3.out.ob 0 rfl);have hre := replace_is (w := w3) (t := litN 97) (y := y) (xs := withP [] g) (A := A2) (cl := c2) (s := S) (c : Int) false (H3.out.tr 0 rfl) (HD.out.below H3.out.bel) (by decide) HR3.out (Nat.le_trans (withP_len [] g) (by decide));rw [NV.v_eq, <- HNN.out] at hre;have HR := lh hre;clear hre;go_wp2_with fail;go_at_call 22;refine HR.out.mono ?_;intro e w4 h4;rw [HT.out.2.1] at h4;obtain ⟨hb4, rfl⟩ := counts_rep (c := c) h4 HS.out.2.2.1 (fun h => by cases h) HF.out.2.2.2.1 HF.out.2.2.2.2;have z1 : txt (outS (if false = true then fun _ => true else fun m => decide (m = c)) g 0 T) = O := (by rw [HF.out.2.2.1, HCH.out.2]; rfl);obtain ⟨F, hF⟩ : ∃ F : Nat, F = if c <= N then 1 else 0 := ⟨_, rfl⟩;have z2 : ((if false = true then cntA T else if c <= cntA T then 1 else 0 : Nat) : Int) = (F : Int) := (by rw [hF, HF.out.1]; rfl);rw [z1, z2];have H4 := lh (H3.out.next hb4);clear h4 hb4 z1 z2 HR e0 e1 e2 e3 e4 e5 e6 e7 e8 hle;by_cases hcn : c <= N
     ·have f1 : decide ((c : Int) <= (N : Int)) = true := dqt (by omega);have f1n : decide (c <= N) = true := dqt hcn;rw [if_pos hcn] at hF;subst hF;clear hcn;go_wp2_with fail;go_at_call 21;with_reducible refine (HA.out _ H4.out.bel).mono ?_
      rintro e wz ⟨rfl, hb⟩;have HBB := lh (H4.out.bel.trans (hb.mono H4.out.bel.size));clear hb;go_wp2_with fail;go_ret;exact ⟨rfl, HBB.out⟩
     ·have f1 : decide ((c : Int) <= (N : Int)) = false := dqf (by omega);have f1n : decide (c <= N) = false := dqf hcn;rw [if_neg hcn] at hF;subst hF;clear hcn;go_wp2_with fail;go_at_call 21;with_reducible refine (HA.out _ H4.out.bel).mono ?_
      rintro e wz ⟨rfl, hb⟩;have HBB := lh (H4.out.bel.trans (hb.mono H4.out.bel.size));clear hb;go_wp2_with fail;go_ret;exact ⟨rfl, HBB.out⟩
end Go.Proofs.YtflkfleihlceeaaGreatDoor

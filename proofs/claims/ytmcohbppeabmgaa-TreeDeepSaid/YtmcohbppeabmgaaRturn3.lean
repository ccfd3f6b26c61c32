/-
  The program's turned, all ways as one. Condition: both together are no longer than 65536 bytes, neither is empty.
-/
import Derived.Test.YtmcohbppeabmgaaRturn2
namespace Go.Proofs.Ytmcohbppeabmgaa
open Go.RowKit Go.Deep

theorem turned_any {a b : RT} {w : World} {x y : Nat} (ha : IsRT w x a) (hb : IsRT w y b) (ka : a.ok) (kb : b.ok) (na : a.text ≠ []) (nb : b.text ≠ []) (hn : a.text.length + b.text.length ≤ 65536) :
    Calls Try.prog 54 #[.pointer (some ⟨x, 0, none⟩), .pointer (some ⟨y, 0, none⟩)] w (MadeText (a.text ++ b.text) w) := by
  have la := RT.len_pos na
  have lb := RT.len_pos nb
  have ea := RT.depth_le ka na
  have eb := RT.depth_le kb nb
  by_cases h1 : b.depth + 1 < a.depth
  · cases a with
    | part s => simp [RT.depth] at h1
    | node l r =>
      obtain ⟨xl, xr, hx, hl, hr⟩ := ha
      obtain ⟨nl, nr, kl, kr⟩ := ka
      have ll := RT.len_pos nl
      have lr := RT.len_pos nr
      have el := RT.depth_le kl nl
      have er := RT.depth_le kr nr
      simp only [RT.text, List.length_append] at hn
      by_cases h2 : l.depth < r.depth
      · cases r with
        | part s => simp [RT.depth] at h2
        | node p q =>
          obtain ⟨xp, xq, hx2, hp, hq⟩ := hr
          obtain ⟨np, nq, kp, kq⟩ := kr
          have lp := RT.len_pos np
          have lq := RT.len_pos nq
          have ep := RT.depth_le kp np
          have eq := RT.depth_le kq nq
          simp only [RT.text, List.length_append] at hn
          refine (turned_a1 hx hl hx2 hp hq hb (by omega) (by omega) (by omega) (by omega) (by omega) h1 h2).mono ?_
          intro e w' h
          exact ⟨.node (.node l p) (.node q b), ⟨by simp [RT.text, nl], by simp [RT.text, nq], ⟨nl, np, kl, kp⟩, ⟨nq, nb, kq, kb⟩⟩, by simp [RT.text], h⟩
      · refine (turned_a2 hx hl hr hb (by omega) (by omega) (by omega) (by omega) h1 h2).mono ?_
        intro e w' h
        exact ⟨.node l (.node r b), ⟨nl, by simp [RT.text, nr], kl, ⟨nr, nb, kr, kb⟩⟩, by simp [RT.text], h⟩
  · by_cases h3 : a.depth + 1 < b.depth
    · cases b with
      | part s => simp [RT.depth] at h3
      | node l r =>
        obtain ⟨yl, yr, hy, hl, hr⟩ := hb
        obtain ⟨nl, nr, kl, kr⟩ := kb
        have ll := RT.len_pos nl
        have lr := RT.len_pos nr
        have el := RT.depth_le kl nl
        have er := RT.depth_le kr nr
        simp only [RT.text, List.length_append] at hn
        by_cases h2 : r.depth < l.depth
        · cases l with
          | part s => simp [RT.depth] at h2
          | node p q =>
            obtain ⟨yp, yq, hy2, hp, hq⟩ := hl
            obtain ⟨np, nq, kp, kq⟩ := kl
            have lp := RT.len_pos np
            have lq := RT.len_pos nq
            have ep := RT.depth_le kp np
            have eq := RT.depth_le kq nq
            simp only [RT.text, List.length_append] at hn
            refine (turned_b1 hy hy2 ha hp hq hr (by omega) (by omega) (by omega) (by omega) (by omega) h3 h2).mono ?_
            intro e w' h
            exact ⟨.node (.node a p) (.node q r), ⟨by simp [RT.text, na], by simp [RT.text, nq], ⟨na, np, ka, kp⟩, ⟨nq, nr, kq, kr⟩⟩, by simp [RT.text], h⟩
        · refine (turned_b2 hy ha hl hr (by omega) (by omega) (by omega) (by omega) h3 h2).mono ?_
          intro e w' h
          exact ⟨.node (.node a l) r, ⟨by simp [RT.text, na], nr, ⟨na, nl, ka, kl⟩, kr⟩, by simp [RT.text], h⟩
    · refine (turned_c ha hb hn (by omega) (by omega) h1 h3).mono ?_
      intro e w' h
      exact ⟨.node a b, ⟨na, nb, ka, kb⟩, rfl, h⟩
end Go.Proofs.Ytmcohbppeabmgaa

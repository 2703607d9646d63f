
/-
  What is parsed is written as it was: the plain side.
-/
import Derived.Test.YtpannhbmelcpfaaRtpPlain
import Derived.Test.YtpannhbmelcpfaaRtpParse3
namespace Go.Proofs.Ytpannhbmelcpfaa
open Go.RowKit Go.Shelf
set_option linter.unusedVariables false
theorem Big_Num1 {l : List Int} (h : l.length = 1) (ho : Str.Ok l) : Big 1 (l.getD 0 0) = l := by
  match l, h with
  | [a], _ => have := ho 0; simp at this; rw [Big1]; simp; omega
theorem Big_Num2 {l : List Int} (h : l.length = 2) (ho : Str.Ok l) : Big 2 (Num l) = l := by
  match l, h with
  | [a, b], _ => have h0 := ho 0; have h1 := ho 1; simp at h0 h1; rw [Big2]; simp [Num]; omega
theorem Big_Num4 {l : List Int} (h : l.length = 4) (ho : Str.Ok l) : Big 4 (Num l) = l := by
  match l, h with
  | [a, b, c, d], _ => have h0 := ho 0; have h1 := ho 1; have h2 := ho 2; have h3 := ho 3; simp at h0 h1 h2 h3; rw [Big4]; simp [Num]; omega
theorem longs_snoc (xs : List Int) (x : Int) : longs (xs ++ [x]) = longs xs ++ Big 4 x := by simp [longs]
theorem longs_pcsrc {l : List Int} (ho : Str.Ok l) : ∀ k, 12 + 4 * k ≤ l.length → longs (pcsrc l k) = (l.drop 12).take (4 * k)
  | 0, _ => by simp [pcsrc, longs]
  | k + 1, h => by
    rw [pcsrc_succ, longs_snoc, longs_pcsrc ho k (by omega), Big_Num4 (by simp; omega) ((ho.drop _).take _), show 4 * (k + 1) = 4 * k + 4 from by omega, List.take_add, List.drop_drop]
theorem psize_nz {t : List Int} (h : psize t ≠ 0) : 0 < t.length ∧ psize t = (t.getD (t.length - 1) 0).toNat ∧ t.getD (t.length - 1) 0 ≤ t.length := by
  unfold psize at *
  split at h
  · exact absurd rfl h
  · rename_i h1
    rw [if_neg h1]
    split at h
    · exact absurd rfl h
    · rename_i h2
      rw [if_neg h2]
      exact ⟨by omega, rfl, by omega⟩
theorem pcode_zero {n : Nat} {l : List Int} (h : pcode n l = 0) : n ≠ 0 ∧ l.getD 0 0 / 64 = 2 ∧ pat1 l ≤ n ∧ (pext l = true → pat1 l + 4 ≤ n) ∧ pat2 l ≤ n ∧ (ppad l = true → psize (ptail l) ≠ 0) := by
  unfold pcode at h
  split at h
  · cases h
  · rename_i h1
    split at h
    · cases h
    · rename_i h2
      split at h
      · cases h
      · rename_i h3
        split at h
        · cases h
        · rename_i h4
          split at h
          · cases h
          · rename_i h5
            split at h
            · cases h
            · rename_i h6
              refine ⟨h1, by simpa using h2, by omega, fun e => ?_, by omega, fun e e2 => h6 ⟨e, e2⟩⟩
              rcases Nat.lt_or_ge n (pat1 l + 4) with h | h
              · exact absurd ⟨e, h⟩ h4
              · exact h
/-- The parts of what was parsed. -/
structure Psd (l : List Int) (s : Pl) : Prop where
  nc : s.nc = pnc l
  ne : s.ne = if pext l = true then 4 * pwd l else 0
  np : s.np = pend l
  nd : s.nd = (ptail l).length - pend l
theorem psd_of {W : World} {l : List Int} {s : Pl} (h : PkAt W (ppk l) s) (h2 : pat2 l ≤ l.length) : Psd l s := by
  have e2 : pat2 l = if pext l = true then pat1 l + 4 + 4 * pwd l else pat1 l := rfl
  refine ⟨?_, ?_, ?_, ?_⟩
  · rw [← h.csrc.1]; simp [ppk, pcsrc]
  · rw [← h.ext.len]
    show (pexts l).length = _
    unfold pexts
    cases hx : pext l
    · simp
    · rw [hx] at e2
      simp only [if_true] at e2 ⊢
      simp; omega
  · rw [← h.pay.len]
    show ((ptail l).take (pend l)).length = _
    have : pend l ≤ (ptail l).length := by unfold pend; omega
    simp; omega
  · rw [← h.pad.len]
    show ((ptail l).drop (pend l)).length = _
    simp
theorem psd_nd {l : List Int} {s : Pl} (h : Psd l s) (ho : Str.Ok l) (hp : ppad l = true → psize (ptail l) ≠ 0) : (0 < s.nd ↔ ppad l = true) ∧ (ppad l = true → s.nd = psize (ptail l) ∧ s.nd ≤ (ptail l).length) ∧ s.np + s.nd = (ptail l).length := by
  have hle := psize_le (ptail l) (ho.drop _)
  have e := h.nd; have e1 := h.np
  unfold pend at e e1
  cases hx : ppad l
  · rw [hx] at e e1; simp at e e1
    exact ⟨by simp; omega, (fun h => by cases h), by omega⟩
  · have := hp hx
    rw [hx] at e e1; simp only [if_true] at e e1
    exact ⟨by simp; omega, fun _ => ⟨by omega, by omega⟩, by omega⟩
theorem psd_sz {l : List Int} {s : Pl} (h : Psd l s) (ho : Str.Ok l) (h2 : pat2 l ≤ l.length) (hp : ppad l = true → psize (ptail l) ≠ 0) : sz (ppk l) s = l.length := by
  obtain ⟨_, _, e⟩ := psd_nd h ho hp
  have et : (ptail l).length = l.length - pat2 l := by simp [ptail]
  have e2 : pat2 l = if pext l = true then pat1 l + 4 + 4 * pwd l else pat1 l := rfl
  have e1 : pat1 l = 12 + 4 * pnc l := rfl
  have hn := h.nc; have hne := h.ne
  show 12 + 4 * s.nc + s.np + s.nd + (if pext l = true then 4 + s.ne else 0) = l.length
  cases hx : pext l <;> rw [hx] at e2 hne <;> simp at e2 hne ⊢ <;> omega
theorem pnc_le (l : List Int) : pnc l ≤ 15 := by unfold pnc; omega
theorem psd_wcode {l : List Int} {s : Pl} (h : Psd l s) (ho : Str.Ok l) (hn : l.length ≤ 1500) (h2 : pat2 l ≤ l.length) (hp : ppad l = true → psize (ptail l) ≠ 0) : wcode (ppk l) s = 0 := by
  have hs := psd_sz h ho h2 hp
  obtain ⟨d1, d2, d3⟩ := psd_nd h ho hp
  have ev : vext (ppk l) s = true := by
    have hne := h.ne
    show (if pext l = true then decide (s.ne % 4 = 0) else decide (s.ne = 0) && decide (pprof l = 0)) = true
    unfold pprof
    cases hx : pext l <;> rw [hx] at hne <;> simp at hne ⊢ <;> omega
  have ep : vpad (ppk l).pad s.nd = true := by
    unfold vpad
    cases hx : ppad l
    · have : s.nd = 0 := by
        rcases Nat.eq_zero_or_pos s.nd with e | e
        · exact e
        · rw [d1.1 e] at hx; cases hx
      simp [this]
    · obtain ⟨e1, e2⟩ := d2 hx
      obtain ⟨f1, f2, f3⟩ := psize_nz (hp hx)
      have f0 := (ho.drop (pat2 l)) ((ptail l).length - 1)
      have f0' : 0 ≤ (ptail l).getD ((ptail l).length - 1) 0 := f0.1
      have hpos : 0 < s.nd := d1.2 hx
      have : (ppk l).pad.getD (s.nd - 1) 0 = s.nd := by
        show ((ptail l).drop (pend l)).getD (s.nd - 1) 0 = s.nd
        rw [← h.np, List.getD_eq_getElem?_getD, List.getElem?_drop, ← List.getD_eq_getElem?_getD, show s.np + (s.nd - 1) = (ptail l).length - 1 from by omega]
        omega
      rw [Bool.or_eq_true]; right; simpa using this
  have hnc : s.nc ≤ 15 := by rw [h.nc]; exact pnc_le l
  have hpt : (ppk l).pt = l.getD 1 0 % 128 := rfl
  unfold wcode
  rw [if_neg, if_neg (by omega), if_neg (by omega)]
  rw [ev, ep, hpt]
  simp; omega
theorem psd_enc {l : List Int} {s : Pl} (h : Psd l s) (ho : Str.Ok l) (hc : pcode l.length l = 0) : enc (ppk l) s = l := by
  obtain ⟨h0, hv, h1, hx4, h2, hp⟩ := pcode_zero hc
  obtain ⟨d1, d2, d3⟩ := psd_nd h ho hp
  have e1 : pat1 l = 12 + 4 * pnc l := rfl
  have e2 : pat2 l = if pext l = true then pat1 l + 4 + 4 * pwd l else pat1 l := rfl
  have b0 := ho 0; have b1 := ho 1
  have l12 : 12 ≤ l.length := by omega
  have hh0 : hd0 (ppk l) s = l.getD 0 0 := by
    show 128 + (if decide (0 < s.nd) = true then 32 else 0) + (if pext l = true then 16 else 0) + (s.nc : Int) = l.getD 0 0
    have a1 : (decide (0 < s.nd)) = ppad l := by rw [Bool.eq_iff_iff]; simpa using d1
    rw [a1, h.nc]
    unfold ppad pext pnc
    clear a1
    generalize l.getD 0 0 = x at b0 hv ⊢
    by_cases c1 : x / 32 % 2 = 1 <;> by_cases c2 : x / 16 % 2 = 1 <;> simp only [c1, c2, decide_true, decide_false, if_true, Bool.false_eq_true, if_false] <;> omega
  have hh1 : hd1 (ppk l) = l.getD 1 0 := by
    show (if decide (128 ≤ l.getD 1 0) = true then (128 : Int) else 0) + l.getD 1 0 % 128 = l.getD 1 0
    generalize l.getD 1 0 = x at b1 ⊢
    by_cases c1 : 128 ≤ x <;> simp only [c1, decide_true, decide_false, if_true, Bool.false_eq_true, if_false] <;> omega
  have hH : encH (ppk l) s = l.take 12 := by
    unfold encH
    rw [hh0, hh1]
    show Big 1 (l.getD 0 0) ++ (Big 1 (l.getD 1 0) ++ (Big 2 (Num ((l.drop 2).take 2)) ++ (Big 4 (Num ((l.drop 4).take 4)) ++ Big 4 (Num ((l.drop 8).take 4))))) = _
    rw [Big_Num2 (by simp; omega) ((ho.drop _).take _), Big_Num4 (by simp; omega) ((ho.drop _).take _), Big_Num4 (by simp; omega) ((ho.drop _).take _)]
    have g0 : Big 1 (l.getD 0 0) = l.take 1 := by
      have := Big_Num1 (l := l.take 1) (by simp; omega) (ho.take _)
      rwa [getD_take', if_pos (by omega)] at this
    have g1 : Big 1 (l.getD 1 0) = (l.drop 1).take 1 := by
      have := Big_Num1 (l := (l.drop 1).take 1) (by simp; omega) ((ho.drop _).take _)
      rwa [getD_take', if_pos (by omega), getD_drop'] at this
    rw [g0, g1]
    rw [show (12 : Nat) = 1 + (1 + (2 + (4 + 4))) from rfl, List.take_add, List.take_add, List.take_add, List.take_add, List.drop_drop, List.drop_drop, List.drop_drop]
  have hX : encX (ppk l) s = (l.drop (pat1 l)).take (pat2 l - pat1 l) := by
    show (if pext l = true then Big 2 (pprof l) ++ (Big 2 ((s.ne / 4 : Nat) : Int) ++ pexts l) else []) = _
    cases hx : pext l
    · rw [e2, hx]; simp
    · have hne := h.ne
      have := hx4 hx
      rw [hx] at hne e2
      simp only [if_true] at hne e2 ⊢
      unfold pprof pexts
      rw [hx, if_pos rfl, if_pos rfl, Big_Num2 (by simp; omega) ((ho.drop _).take _)]
      have hw : ((s.ne / 4 : Nat) : Int) = Num ((l.drop (pat1 l + 2)).take 2) := by
        have hb := num_lt (ho.drop (pat1 l + 2)) 2 (by rw [List.length_drop]; omega) 65536 rfl
        unfold pwd at hne; omega
      rw [hw, Big_Num2 (by simp; omega) ((ho.drop _).take _), show pat2 l - pat1 l = 2 + (2 + 4 * pwd l) from by omega, List.take_add, List.take_add, List.drop_drop, List.drop_drop]
  have hL : longs (ppk l).csrc = (l.drop 12).take (4 * pnc l) := longs_pcsrc ho (pnc l) (by omega)
  have hT : (ppk l).payload ++ (ppk l).pad = l.drop (pat2 l) := List.take_append_drop (pend l) (ptail l)
  have hle : pat1 l ≤ pat2 l := by rw [e2]; split <;> omega
  rw [enc_eq, hH, hX, hL, hT]
  have t3 : (l.drop (pat1 l)).take (pat2 l - pat1 l) ++ l.drop (pat2 l) = l.drop (pat1 l) := by
    have := List.take_append_drop (pat2 l - pat1 l) (l.drop (pat1 l))
    rwa [List.drop_drop, show pat1 l + (pat2 l - pat1 l) = pat2 l from by omega] at this
  have t2 : (l.drop 12).take (4 * pnc l) ++ l.drop (pat1 l) = l.drop 12 := by
    have := List.take_append_drop (4 * pnc l) (l.drop 12)
    rwa [List.drop_drop] at this
  rw [t3, t2, List.take_append_drop]
end Go.Proofs.Ytpannhbmelcpfaa

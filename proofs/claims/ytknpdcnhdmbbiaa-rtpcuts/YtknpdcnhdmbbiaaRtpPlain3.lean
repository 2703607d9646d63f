
/-
  The first bytes of what is written: the plain side.
-/
import Derived.Test.YtknpdcnhdmbbiaaRtpPlain
import Derived.Test.YtknpdcnhdmbbiaaRtpParse5
namespace Go.Proofs.Ytknpdcnhdmbbiaa
open Go.RowKit Go.Shelf
set_option linter.unusedVariables false
theorem and4095 (c : Int) : ∃ x : Nat, bits .and .i64 c 4095 = (x : Int) ∧ x ≤ 4095 := by
  refine ⟨(BitVec.ofInt 64 c &&& BitVec.ofInt 64 4095).toNat, ?_, ?_⟩
  · show IntKind.i64.wrap ((BitVec.ofInt 64 c &&& BitVec.ofInt 64 4095).toNat : Nat) = _
    have : (BitVec.ofInt 64 c &&& BitVec.ofInt 64 4095).toNat ≤ 4095 := by
      rw [BitVec.toNat_and]; exact Nat.and_le_right
    rw [IntKind.wrap_i64]; omega
  · rw [BitVec.toNat_and]; exact Nat.and_le_right
theorem cutf (l : List Int) (m i j : Nat) (h : i + j ≤ m) : ((l.take m).drop i).take j = (l.drop i).take j := by
  rw [List.drop_take, List.take_take, Nat.min_eq_left (by omega)]
theorem cut0 (l : List Int) (m : Nat) (h : 1 ≤ m) : (l.take m).getD 0 0 = l.getD 0 0 := by rw [getD_take', if_pos (by omega)]
def hdr (p : Pk) (s : Pl) : Nat := 12 + 4 * s.nc + (if p.hasExt = true then 4 + s.ne else 0)
theorem hdr_sz (p : Pk) (s : Pl) : sz p s = hdr p s + s.np + s.nd := by unfold sz hdr; omega
theorem hdr_ge (p : Pk) (s : Pl) : 12 + 4 * s.nc ≤ hdr p s ∧ (p.hasExt = true → 12 + 4 * s.nc + 4 ≤ hdr p s) := by
  unfold hdr
  exact ⟨by omega, fun e => by rw [e]; simp⟩
theorem cut_pnc {p : Pk} {s : Pl} (h : Vld p s) {m : Nat} (h1 : 1 ≤ m) : pnc ((enc p s).take m) = s.nc := by rw [← enc_nc h]; unfold pnc; rw [cut0 _ _ h1]
theorem cut_pext {p : Pk} {s : Pl} (h : Vld p s) {m : Nat} (h1 : 1 ≤ m) : pext ((enc p s).take m) = p.hasExt := by rw [← enc_pext h]; unfold pext; rw [cut0 _ _ h1]
theorem cut_ppad {p : Pk} {s : Pl} (h : Vld p s) {m : Nat} (h1 : 1 ≤ m) : ppad ((enc p s).take m) = decide (0 < s.nd) := by rw [← enc_ppad h]; unfold ppad; rw [cut0 _ _ h1]
theorem cut_at1 {p : Pk} {s : Pl} (h : Vld p s) {m : Nat} (h1 : 1 ≤ m) : pat1 ((enc p s).take m) = 12 + 4 * s.nc := by unfold pat1; rw [cut_pnc h h1]
theorem cut_v {p : Pk} {s : Pl} (h : Vld p s) {m : Nat} (h1 : 1 ≤ m) : ((enc p s).take m).getD 0 0 / 64 = 2 := by rw [cut0 _ _ h1]; exact enc_v h
theorem cut_wd {p : Pk} {s : Pl} (h : Vld p s) {m : Nat} (hx : p.hasExt = true) (h1 : 12 + 4 * s.nc + 4 ≤ m) : pwd ((enc p s).take m) = s.ne / 4 := by
  rw [← enc_wd h hx]
  unfold pwd
  rw [cut_at1 h (by omega), enc_at1 h, cutf _ _ _ _ (by omega)]
theorem cut_at2 {p : Pk} {s : Pl} (h : Vld p s) {m : Nat} (h1 : 1 ≤ m) (hx : p.hasExt = true → 12 + 4 * s.nc + 4 ≤ m) : pat2 ((enc p s).take m) = hdr p s := by
  unfold pat2 hdr
  rw [cut_pext h h1, cut_at1 h h1]
  cases he : p.hasExt
  · simp
  · have := h.ext he
    simp only [if_true]
    rw [cut_wd h he (hx he)]; omega
/-- Cut in the header. -/
theorem cut_short {p : Pk} {s : Pl} (h : Vld p s) {m : Nat} (hm : m < hdr p s) : pcodeF m ((enc p s).take m) = 20 := by
  have hz := hdr_sz p s; have hs := h.size
  unfold pcodeF
  rw [if_neg (by omega)]
  by_cases h0 : m = 0
  · exact pc0 h0
  · have hv := cut_v h (m := m) (by omega)
    by_cases h1 : m < 12 + 4 * s.nc
    · exact pc1 h0 hv (by rw [cut_at1 h (by omega)]; exact h1)
    · have hx : p.hasExt = true := by
        cases e : p.hasExt
        · unfold hdr at hm; rw [e] at hm; simp at hm; omega
        · rfl
      by_cases h2 : m < 12 + 4 * s.nc + 4
      · exact pc2 h0 hv (by rw [cut_pext h (by omega)]; exact hx) (by rw [cut_at1 h (by omega)]; exact h2)
      · exact pc3 h0 hv (by rw [cut_at2 h (by omega) (fun _ => by omega)]; exact hm)
/-- Cut behind the header. -/
theorem cut_long {p : Pk} {s : Pl} (h : Vld p s) {m : Nat} (hm : hdr p s ≤ m) (hl : m ≤ sz p s) : pcodeF m ((enc p s).take m) = if ppad ((enc p s).take m) = true ∧ psize (ptail ((enc p s).take m)) = 0 then 21 else 0 := by
  obtain ⟨g1, g2⟩ := hdr_ge p s
  have hs := h.size
  unfold pcodeF
  rw [if_neg (by omega)]
  exact pc_end (by omega) (cut_v h (by omega)) (by rw [cut_at1 h (by omega)]; omega) (fun e => by rw [cut_pext h (by omega)] at e; rw [cut_at1 h (by omega)]; have := g2 e; omega) (by rw [cut_at2 h (by omega) (fun e => by have := g2 e; omega)]; omega)
theorem cut_pad {p : Pk} {s : Pl} (h : Vld p s) {m : Nat} (hm : hdr p s ≤ m) (hl : m ≤ sz p s) : pcodeF m ((enc p s).take m) = 0 ∨ pcodeF m ((enc p s).take m) = 21 := by
  rw [cut_long h hm hl]; split
  · exact .inr rfl
  · exact .inl rfl
theorem cut_nopad {p : Pk} {s : Pl} (h : Vld p s) {m : Nat} (hm : hdr p s ≤ m) (hl : m ≤ sz p s) (hd : s.nd = 0) : pcodeF m ((enc p s).take m) = 0 ∧ (ppk ((enc p s).take m)).payload = p.payload.take (m - hdr p s) ∧ (ppk ((enc p s).take m)).seq = p.seq := by
  obtain ⟨g1, g2⟩ := hdr_ge p s
  have hpp : ppad ((enc p s).take m) = false := by rw [cut_ppad h (by omega), hd]; rfl
  have hpd : p.pad = [] := List.eq_nil_of_length_eq_zero (by rw [h.nd, hd])
  refine ⟨?_, ?_, ?_⟩
  · rw [cut_long h hm hl, hpp]; simp
  · show (ptail ((enc p s).take m)).take (pend ((enc p s).take m)) = _
    unfold pend
    rw [hpp]
    simp only [Bool.false_eq_true, if_false, Nat.sub_zero, List.take_length]
    unfold ptail
    rw [cut_at2 h (by omega) (fun e => by have := g2 e; omega), List.drop_take]
    have := enc_tail h
    unfold ptail at this
    rw [enc_at2 h] at this
    unfold hdr
    rw [this, hpd, List.append_nil]
  · show Num ((((enc p s).take m).drop 2).take 2) = _
    rw [cutf _ _ _ _ (by omega)]; exact (enc_fld h).1
end Go.Proofs.Ytknpdcnhdmbbiaa

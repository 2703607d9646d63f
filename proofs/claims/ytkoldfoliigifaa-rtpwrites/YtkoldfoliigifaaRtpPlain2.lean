/-
  What is written is parsed back: the plain side.
-/
import Derived.Test.YtkoldfoliigifaaRtpParse2
import Derived.Test.YtkoldfoliigifaaRtpWrite
import Derived.Test.YtkoldfoliigifaaRtpParse3
namespace Go.Proofs.Ytkoldfoliigifaa
open Go.RowKit Go.Shelf
set_option linter.unusedVariables false
theorem dropA {A B : List Int} {n : Nat} (h : A.length = n) (k : Nat) : (A ++ B).drop (n + k) = B.drop k := by
  subst h; rw [← List.drop_drop, List.drop_left]
theorem takeA {A B : List Int} {n : Nat} (h : A.length = n) : (A ++ B).take n = A := by subst h; simp
def encH (p : Pk) (s : Pl) : List Int := Big 1 (hd0 p s) ++ (Big 1 (hd1 p) ++ (Big 2 p.seq ++ (Big 4 p.ts ++ Big 4 p.ssrc)))
def encX (p : Pk) (s : Pl) : List Int := if p.hasExt then Big 2 p.profile ++ (Big 2 ((s.ne / 4 : Nat) : Int) ++ p.ext) else []
theorem encH_len (p : Pk) (s : Pl) : (encH p s).length = 12 := by simp [encH, Big_len]
theorem enc_eq (p : Pk) (s : Pl) : enc p s = encH p s ++ (longs p.csrc ++ (encX p s ++ (p.payload ++ p.pad))) := by simp [enc, encH, encX]
theorem longs_len (l : List Int) : (longs l).length = 4 * l.length := by
  induction l with
  | nil => rfl
  | cons c l ih => simp only [longs, List.map_cons, List.flatten_cons, List.length_append, Big_len, List.length_cons] at *; omega
theorem longs_at (R : List Int) : ∀ (cs : List Int) (i : Nat), i < cs.length → ((longs cs ++ R).drop (4 * i)).take 4 = Big 4 (cs.getD i 0)
  | [], i, h => by simp at h
  | c :: cs, 0, _ => by
    have e : longs (c :: cs) = Big 4 c ++ longs cs := by simp [longs]
    rw [e, List.append_assoc]
    simpa using takeA (B := longs cs ++ R) (Big_len 4 c)
  | c :: cs, i + 1, h => by
    have e : longs (c :: cs) = Big 4 c ++ longs cs := by simp [longs]
    rw [e, List.append_assoc, show 4 * (i + 1) = 4 + 4 * i from by omega, dropA (Big_len 4 c)]
    have := longs_at R cs i (by simpa using h)
    simpa using this
theorem Num_Big2 (x : Int) (h : 0 ≤ x ∧ x < 65536) : Num (Big 2 x) = x := by rw [Big2]; simp [Num]; omega
theorem Num_Big4 (x : Int) (h : 0 ≤ x ∧ x < 4294967296) : Num (Big 4 x) = x := by rw [Big4]; simp [Num]; omega
/-- A valid packet's parts. -/
structure Vld (p : Pk) (s : Pl) : Prop where
  nc : p.csrc.length = s.nc
  ne : p.ext.length = s.ne
  np : p.payload.length = s.np
  nd : p.pad.length = s.nd
  cs : ∀ i, i < p.csrc.length → 0 ≤ p.csrc.getD i 0 ∧ p.csrc.getD i 0 < 4294967296
  seq : 0 ≤ p.seq ∧ p.seq < 65536
  ts : 0 ≤ p.ts ∧ p.ts < 4294967296
  ssrc : 0 ≤ p.ssrc ∧ p.ssrc < 4294967296
  prof : 0 ≤ p.profile ∧ p.profile < 65536
  pt : 0 ≤ p.pt ∧ p.pt ≤ 127
  n15 : s.nc ≤ 15
  ext : p.hasExt = true → s.ne % 4 = 0 ∧ s.ne < 262144
  noext : p.hasExt = false → s.ne = 0 ∧ p.profile = 0
  pad : s.nd = 0 ∨ p.pad.getD (s.nd - 1) 0 = s.nd
  size : sz p s ≤ 1500
  okp : Str.Ok p.pad
theorem vld_of {W : World} {p : Pk} {s : Pl} (h : PkAt W p s) (hw : wcode p s = 0) : Vld p s := by
  unfold wcode at hw
  split at hw
  · cases hw
  · rename_i h1
    split at hw
    · cases hw
    · rename_i h2
      split at hw
      · cases hw
      · rename_i h3
        have e1 : ¬ p.pt < 0 := fun e => h1 (.inl e)
        have e2 : ¬ 127 < p.pt := fun e => h1 (.inr (.inl e))
        have e3 : vext p s = true := by cases e : vext p s <;> simp_all
        have e4 : vpad p.pad s.nd = true := by cases e : vpad p.pad s.nd <;> simp_all
        obtain ⟨hl, b, o, hr⟩ := h.csrc
        refine ⟨hl, h.ext.len, h.pay.len, h.pad.len, fun i hi => (hr i (by omega)).2.2.2, h.seq, h.ts, h.ssrc, h.prof, ⟨by omega, by omega⟩, by omega, fun hx => ?_, fun hx => ?_, ?_, by omega, h.pad.ok⟩
        · unfold vext at e3; rw [hx] at e3; simp at e3
          refine ⟨e3, ?_⟩
          unfold sz at h3; rw [hx] at h3; simp at h3; omega
        · unfold vext at e3; rw [hx] at e3; simpa using e3
        · unfold vpad at e4; simpa using e4
theorem encX_len {p : Pk} {s : Pl} (h : Vld p s) : (encX p s).length = if p.hasExt = true then 4 + s.ne else 0 := by
  unfold encX
  cases p.hasExt <;> simp [Big_len, h.ne]
  omega
theorem enc_len {p : Pk} {s : Pl} (h : Vld p s) : (enc p s).length = sz p s := by
  rw [enc_eq]
  simp only [List.length_append, encH_len, longs_len, encX_len h, h.nc, h.np, h.nd]
  unfold sz; omega
theorem enc_cons (p : Pk) (s : Pl) : enc p s = (hd0 p s % 256) :: (hd1 p % 256) :: (Big 2 p.seq ++ (Big 4 p.ts ++ (Big 4 p.ssrc ++ (longs p.csrc ++ (encX p s ++ (p.payload ++ p.pad)))))) := by
  rw [enc_eq]; simp [encH, Big1]
theorem hd0_bd {p : Pk} {s : Pl} (h : Vld p s) : 128 ≤ hd0 p s ∧ hd0 p s < 192 := by
  have := h.n15; unfold hd0; split <;> split <;> omega
theorem hd1_bd {p : Pk} {s : Pl} (h : Vld p s) : 0 ≤ hd1 p ∧ hd1 p < 256 := by
  have := h.pt; unfold hd1; split <;> omega
theorem enc0 {p : Pk} {s : Pl} (h : Vld p s) : (enc p s).getD 0 0 = hd0 p s := by
  rw [enc_cons]; have := hd0_bd h; simp; omega
theorem enc1 {p : Pk} {s : Pl} (h : Vld p s) : (enc p s).getD 1 0 = hd1 p := by
  rw [enc_cons]; have := hd1_bd h; simp; omega
theorem enc_nc {p : Pk} {s : Pl} (h : Vld p s) : pnc (enc p s) = s.nc := by
  unfold pnc; rw [enc0 h]; have := h.n15; unfold hd0; split <;> split <;> omega
theorem enc_pext {p : Pk} {s : Pl} (h : Vld p s) : pext (enc p s) = p.hasExt := by
  unfold pext; rw [enc0 h]; have := h.n15; unfold hd0
  cases p.hasExt <;> simp <;> split <;> omega
theorem enc_ppad {p : Pk} {s : Pl} (h : Vld p s) : ppad (enc p s) = decide (0 < s.nd) := by
  unfold ppad; rw [enc0 h]; have := h.n15; unfold hd0
  by_cases hd : 0 < s.nd <;> simp [hd] <;> split <;> omega
theorem enc_v {p : Pk} {s : Pl} (h : Vld p s) : (enc p s).getD 0 0 / 64 = 2 := by rw [enc0 h]; have := hd0_bd h; omega
theorem enc_at1 {p : Pk} {s : Pl} (h : Vld p s) : pat1 (enc p s) = 12 + 4 * s.nc := by unfold pat1; rw [enc_nc h]
theorem enc_drop12 (p : Pk) (s : Pl) (k : Nat) : (enc p s).drop (12 + k) = (longs p.csrc ++ (encX p s ++ (p.payload ++ p.pad))).drop k := by rw [enc_eq, dropA (encH_len p s)]
theorem enc_dropX {p : Pk} {s : Pl} (h : Vld p s) (k : Nat) : (enc p s).drop (12 + 4 * s.nc + k) = (encX p s ++ (p.payload ++ p.pad)).drop k := by
  rw [Nat.add_assoc, enc_drop12, dropA (by rw [longs_len, h.nc])]
theorem enc_wd {p : Pk} {s : Pl} (h : Vld p s) (hx : p.hasExt = true) : pwd (enc p s) = s.ne / 4 := by
  unfold pwd
  rw [enc_at1 h, enc_dropX h]
  unfold encX; rw [hx, if_pos rfl, List.append_assoc, show (2 : Nat) = 2 + 0 from rfl, dropA (Big_len 2 _), List.drop_zero, List.append_assoc, takeA (Big_len 2 _), Num_Big2 _ ⟨by omega, by have := h.ext hx; omega⟩]
  simp; omega
theorem enc_at2 {p : Pk} {s : Pl} (h : Vld p s) : pat2 (enc p s) = 12 + 4 * s.nc + (if p.hasExt = true then 4 + s.ne else 0) := by
  unfold pat2
  rw [enc_pext h, enc_at1 h]
  cases hx : p.hasExt
  · simp
  · have := h.ext hx
    simp only [if_true]
    rw [enc_wd h hx]; omega
theorem enc_tail {p : Pk} {s : Pl} (h : Vld p s) : ptail (enc p s) = p.payload ++ p.pad := by
  unfold ptail
  have e := dropA (B := p.payload ++ p.pad) (encX_len h) 0
  rw [Nat.add_zero, List.drop_zero] at e
  rw [enc_at2 h, enc_dropX h, e]
theorem enc_psize {p : Pk} {s : Pl} (h : Vld p s) (hd : 0 < s.nd) : psize (p.payload ++ p.pad) = s.nd := by
  have hl : (p.payload ++ p.pad).length = s.np + s.nd := by rw [List.length_append, h.np, h.nd]
  have hg : (p.payload ++ p.pad).getD (s.np + s.nd - 1) 0 = s.nd := by
    rw [List.getD_eq_getElem?_getD, List.getElem?_append_right (by rw [h.np]; omega), h.np, ← List.getD_eq_getElem?_getD, show s.np + s.nd - 1 - s.np = s.nd - 1 from by omega]
    rcases h.pad with e | e
    · omega
    · exact e
  unfold psize
  rw [hl, hg, if_neg (by omega), if_neg (by omega)]; simp
theorem enc_pend {p : Pk} {s : Pl} (h : Vld p s) : pend (enc p s) = s.np := by
  unfold pend
  rw [enc_tail h, enc_ppad h, List.length_append, h.np, h.nd]
  by_cases hd : 0 < s.nd
  · rw [if_pos (by simpa using hd), enc_psize h hd]; omega
  · rw [if_neg (by simpa using hd)]; omega
/-- What is written is parsed: no error. -/
theorem enc_code {p : Pk} {s : Pl} (h : Vld p s) : pcode (enc p s).length (enc p s) = 0 := by
  have hl := enc_len h
  have hz : sz p s = 12 + 4 * s.nc + s.np + s.nd + (if p.hasExt then 4 + s.ne else 0) := rfl
  rw [pcode, if_neg (by rw [hl, hz]; omega), if_neg (by simpa using enc_v h), if_neg (by rw [hl, hz, enc_at1 h]; omega), if_neg, if_neg, if_neg]
  · rintro ⟨h1, h2⟩
    rw [enc_ppad h] at h1
    rw [enc_tail h, enc_psize h (by simpa using h1)] at h2
    simp at h1; omega
  · rw [hl, hz, enc_at2 h]; omega
  · rintro ⟨h1, h2⟩
    rw [enc_pext h] at h1
    rw [hl, hz, enc_at1 h, h1] at h2
    simp at h2; omega
theorem enc_codeF {p : Pk} {s : Pl} (h : Vld p s) : (enc p s).length ≤ 1500 := by rw [enc_len h]; exact h.size
theorem enc_csrc {p : Pk} {s : Pl} (h : Vld p s) : pcsrc (enc p s) (pnc (enc p s)) = p.csrc := by
  rw [enc_nc h]
  refine getD_ext (by simp [pcsrc, h.nc]) fun i hi => ?_
  have hi' : i < s.nc := by simpa [pcsrc] using hi
  have e : (pcsrc (enc p s) s.nc).getD i 0 = Num (((enc p s).drop (12 + 4 * i)).take 4) := by
    simp [pcsrc, List.getD_eq_getElem?_getD, hi']
  rw [e, enc_drop12, longs_at _ _ _ (by rw [h.nc]; exact hi'), Num_Big4 _ (h.cs i (by rw [h.nc]; exact hi'))]
theorem enc_fld {p : Pk} {s : Pl} (h : Vld p s) : Num (((enc p s).drop 2).take 2) = p.seq ∧ Num (((enc p s).drop 4).take 4) = p.ts ∧ Num (((enc p s).drop 8).take 4) = p.ssrc := by
  have e := enc_cons p s
  rw [e]
  refine ⟨?_, ?_, ?_⟩
  · simp only [List.drop_succ_cons, List.drop_zero]
    rw [takeA (Big_len 2 _), Num_Big2 _ h.seq]
  · simp only [List.drop_succ_cons]
    rw [show (2 : Nat) = 2 + 0 from rfl, dropA (Big_len 2 _), List.drop_zero, takeA (Big_len 4 _), Num_Big4 _ h.ts]
  · simp only [List.drop_succ_cons]
    rw [show (6 : Nat) = 2 + 4 from rfl, dropA (Big_len 2 _), show (4 : Nat) = 4 + 0 from rfl, dropA (Big_len 4 _), List.drop_zero, Nat.add_zero, takeA (Big_len 4 _), Num_Big4 _ h.ssrc]
theorem enc_back {p : Pk} {s : Pl} (h : Vld p s) : ppk (enc p s) = p := by
  have h1 := hd1_bd h
  have hpt := h.pt
  obtain ⟨f1, f2, f3⟩ := enc_fld h
  have := ppk_eq (l := enc p s) (m := p.marker) (pt := p.pt) (lc := p.csrc) (h := p.hasExt) (pr := p.profile) (le := p.ext) (lp := p.payload) (ld := p.pad)
    (by rw [enc1 h]; unfold hd1; cases p.marker <;> simp <;> omega) (by rw [enc1 h]; unfold hd1; split <;> omega) f1 f2 f3 (enc_csrc h) (enc_pext h)
    (by
      unfold pprof; rw [enc_pext h, enc_at1 h]
      cases hx : p.hasExt
      · simp [(h.noext hx).2]
      · simp only [if_true]
        rw [show 12 + 4 * s.nc = 12 + 4 * s.nc + 0 from rfl, enc_dropX h, List.drop_zero]
        unfold encX; rw [hx, if_pos rfl, List.append_assoc, takeA (Big_len 2 _), Num_Big2 _ h.prof])
    (by
      unfold pexts; rw [enc_pext h, enc_at1 h]
      cases hx : p.hasExt
      · simp only [Bool.false_eq_true, if_false]
        exact (List.eq_nil_of_length_eq_zero (by rw [h.ne, (h.noext hx).1])).symm
      · simp only [if_true]
        rw [enc_wd h hx, enc_dropX h]
        unfold encX; rw [hx, if_pos rfl, List.append_assoc, List.append_assoc, show (4 : Nat) = 2 + (2 + 0) from rfl, dropA (Big_len 2 _), dropA (Big_len 2 _), List.drop_zero]
        exact takeA (by rw [h.ne]; have := h.ext hx; omega))
    (by rw [enc_tail h, enc_pend h]; exact takeA h.np)
    (by rw [enc_tail h, enc_pend h]; have := dropA (B := p.pad) h.np 0; rwa [Nat.add_zero, List.drop_zero] at this)
  rw [this]
end Go.Proofs.Ytkoldfoliigifaa
namespace Go.Proofs.Ytkoldfoliigifaa
open Go.RowKit Go.Shelf
set_option linter.unusedVariables false
theorem Big_Num1 {l : List Int} (h : l.length = 1) (ho : Str.Ok l) : Big 1 (l.getD 0 0) = l := by
  match l, h with
  | [a], _ => have := ho 0; simp at this; rw [Big1]; simp; omega
theorem Big_Num2 {l : List Int} (h : l.length = 2) (ho : Str.Ok l) : Big 2 (Num l) = l := by
  match l, h with
  | [a, b], _ => have h0 := ho 0; have h1 := ho 1; simp at h0 h1; rw [Big2]; simp [Num]; omega
theorem Big_Num4 {l : List Int} (h : l.length = 4) (ho : Str.Ok l) : Big 4 (Num l) = l := by
  match l, h with
  | [a, b, c, d], _ => have h0 := ho 0; have h1 := ho 1; have h2 := ho 2; have h3 := ho 3; simp at h0 h1 h2 h3; rw [Big4]; simp [Num]; omega
theorem longs_snoc (xs : List Int) (x : Int) : longs (xs ++ [x]) = longs xs ++ Big 4 x := by simp [longs]
theorem longs_pcsrc {l : List Int} (ho : Str.Ok l) : ∀ k, 12 + 4 * k ≤ l.length → longs (pcsrc l k) = (l.drop 12).take (4 * k)
  | 0, _ => by simp [pcsrc, longs]
  | k + 1, h => by
    rw [pcsrc_succ, longs_snoc, longs_pcsrc ho k (by omega), Big_Num4 (by simp; omega) ((ho.drop _).take _), show 4 * (k + 1) = 4 * k + 4 from by omega, List.take_add, List.drop_drop]
theorem psize_nz {t : List Int} (h : psize t ≠ 0) : 0 < t.length ∧ psize t = (t.getD (t.length - 1) 0).toNat ∧ t.getD (t.length - 1) 0 ≤ t.length := by
  unfold psize at *
  split at h
  · exact absurd rfl h
  · rename_i h1
    rw [if_neg h1]
    split at h
    · exact absurd rfl h
    · rename_i h2
      rw [if_neg h2]
      exact ⟨by omega, rfl, by omega⟩
theorem pcode_zero {n : Nat} {l : List Int} (h : pcode n l = 0) : n ≠ 0 ∧ l.getD 0 0 / 64 = 2 ∧ pat1 l ≤ n ∧ (pext l = true → pat1 l + 4 ≤ n) ∧ pat2 l ≤ n ∧ (ppad l = true → psize (ptail l) ≠ 0) := by
  unfold pcode at h
  split at h
  · cases h
  · rename_i h1
    split at h
    · cases h
    · rename_i h2
      split at h
      · cases h
      · rename_i h3
        split at h
        · cases h
        · rename_i h4
          split at h
          · cases h
          · rename_i h5
            split at h
            · cases h
            · rename_i h6
              refine ⟨h1, by simpa using h2, by omega, fun e => ?_, by omega, fun e e2 => h6 ⟨e, e2⟩⟩
              rcases Nat.lt_or_ge n (pat1 l + 4) with h | h
              · exact absurd ⟨e, h⟩ h4
              · exact h
/-- The parts of what was parsed. -/
structure Psd (l : List Int) (s : Pl) : Prop where
  nc : s.nc = pnc l
  ne : s.ne = if pext l = true then 4 * pwd l else 0
  np : s.np = pend l
  nd : s.nd = (ptail l).length - pend l
theorem psd_of {W : World} {l : List Int} {s : Pl} (h : PkAt W (ppk l) s) (h2 : pat2 l ≤ l.length) : Psd l s := by
  have e2 : pat2 l = if pext l = true then pat1 l + 4 + 4 * pwd l else pat1 l := rfl
  refine ⟨?_, ?_, ?_, ?_⟩
  · rw [← h.csrc.1]; simp [ppk, pcsrc]
  · rw [← h.ext.len]
    show (pexts l).length = _
    unfold pexts
    cases hx : pext l
    · simp
    · rw [hx] at e2
      simp only [if_true] at e2 ⊢
      simp; omega
  · rw [← h.pay.len]
    show ((ptail l).take (pend l)).length = _
    have : pend l ≤ (ptail l).length := by unfold pend; omega
    simp; omega
  · rw [← h.pad.len]
    show ((ptail l).drop (pend l)).length = _
    simp
theorem psd_nd {l : List Int} {s : Pl} (h : Psd l s) (ho : Str.Ok l) (hp : ppad l = true → psize (ptail l) ≠ 0) : (0 < s.nd ↔ ppad l = true) ∧ (ppad l = true → s.nd = psize (ptail l) ∧ s.nd ≤ (ptail l).length) ∧ s.np + s.nd = (ptail l).length := by
  have hle := psize_le (ptail l) (ho.drop _)
  have e := h.nd; have e1 := h.np
  unfold pend at e e1
  cases hx : ppad l
  · rw [hx] at e e1; simp at e e1
    exact ⟨by simp; omega, (fun h => by cases h), by omega⟩
  · have := hp hx
    rw [hx] at e e1; simp only [if_true] at e e1
    exact ⟨by simp; omega, fun _ => ⟨by omega, by omega⟩, by omega⟩
theorem psd_sz {l : List Int} {s : Pl} (h : Psd l s) (ho : Str.Ok l) (h2 : pat2 l ≤ l.length) (hp : ppad l = true → psize (ptail l) ≠ 0) : sz (ppk l) s = l.length := by
  obtain ⟨_, _, e⟩ := psd_nd h ho hp
  have et : (ptail l).length = l.length - pat2 l := by simp [ptail]
  have e2 : pat2 l = if pext l = true then pat1 l + 4 + 4 * pwd l else pat1 l := rfl
  have e1 : pat1 l = 12 + 4 * pnc l := rfl
  have hn := h.nc; have hne := h.ne
  show 12 + 4 * s.nc + s.np + s.nd + (if pext l = true then 4 + s.ne else 0) = l.length
  cases hx : pext l <;> rw [hx] at e2 hne <;> simp at e2 hne ⊢ <;> omega
theorem pnc_le (l : List Int) : pnc l ≤ 15 := by unfold pnc; omega
theorem psd_wcode {l : List Int} {s : Pl} (h : Psd l s) (ho : Str.Ok l) (hn : l.length ≤ 1500) (h2 : pat2 l ≤ l.length) (hp : ppad l = true → psize (ptail l) ≠ 0) : wcode (ppk l) s = 0 := by
  have hs := psd_sz h ho h2 hp
  obtain ⟨d1, d2, d3⟩ := psd_nd h ho hp
  have ev : vext (ppk l) s = true := by
    have hne := h.ne
    show (if pext l = true then decide (s.ne % 4 = 0) else decide (s.ne = 0) && decide (pprof l = 0)) = true
    unfold pprof
    cases hx : pext l <;> rw [hx] at hne <;> simp at hne ⊢ <;> omega
  have ep : vpad (ppk l).pad s.nd = true := by
    unfold vpad
    cases hx : ppad l
    · have : s.nd = 0 := by
        rcases Nat.eq_zero_or_pos s.nd with e | e
        · exact e
        · rw [d1.1 e] at hx; cases hx
      simp [this]
    · obtain ⟨e1, e2⟩ := d2 hx
      obtain ⟨f1, f2, f3⟩ := psize_nz (hp hx)
      have f0 := (ho.drop (pat2 l)) ((ptail l).length - 1)
      have f0' : 0 ≤ (ptail l).getD ((ptail l).length - 1) 0 := f0.1
      have hpos : 0 < s.nd := d1.2 hx
      have : (ppk l).pad.getD (s.nd - 1) 0 = s.nd := by
        show ((ptail l).drop (pend l)).getD (s.nd - 1) 0 = s.nd
        rw [← h.np, List.getD_eq_getElem?_getD, List.getElem?_drop, ← List.getD_eq_getElem?_getD, show s.np + (s.nd - 1) = (ptail l).length - 1 from by omega]
        omega
      rw [Bool.or_eq_true]; right; simpa using this
  have hnc : s.nc ≤ 15 := by rw [h.nc]; exact pnc_le l
  have hpt : (ppk l).pt = l.getD 1 0 % 128 := rfl
  unfold wcode
  rw [if_neg, if_neg (by omega), if_neg (by omega)]
  rw [ev, ep, hpt]
  simp; omega
theorem psd_enc {l : List Int} {s : Pl} (h : Psd l s) (ho : Str.Ok l) (hc : pcode l.length l = 0) : enc (ppk l) s = l := by
  obtain ⟨h0, hv, h1, hx4, h2, hp⟩ := pcode_zero hc
  obtain ⟨d1, d2, d3⟩ := psd_nd h ho hp
  have e1 : pat1 l = 12 + 4 * pnc l := rfl
  have e2 : pat2 l = if pext l = true then pat1 l + 4 + 4 * pwd l else pat1 l := rfl
  have b0 := ho 0; have b1 := ho 1
  have l12 : 12 ≤ l.length := by omega
  have hh0 : hd0 (ppk l) s = l.getD 0 0 := by
    show 128 + (if decide (0 < s.nd) = true then 32 else 0) + (if pext l = true then 16 else 0) + (s.nc : Int) = l.getD 0 0
    have a1 : (decide (0 < s.nd)) = ppad l := by rw [Bool.eq_iff_iff]; simpa using d1
    rw [a1, h.nc]
    unfold ppad pext pnc
    clear a1
    generalize l.getD 0 0 = x at b0 hv ⊢
    by_cases c1 : x / 32 % 2 = 1 <;> by_cases c2 : x / 16 % 2 = 1 <;> simp only [c1, c2, decide_true, decide_false, if_true, Bool.false_eq_true, if_false] <;> omega
  have hh1 : hd1 (ppk l) = l.getD 1 0 := by
    show (if decide (128 ≤ l.getD 1 0) = true then (128 : Int) else 0) + l.getD 1 0 % 128 = l.getD 1 0
    generalize l.getD 1 0 = x at b1 ⊢
    by_cases c1 : 128 ≤ x <;> simp only [c1, decide_true, decide_false, if_true, Bool.false_eq_true, if_false] <;> omega
  have hH : encH (ppk l) s = l.take 12 := by
    unfold encH
    rw [hh0, hh1]
    show Big 1 (l.getD 0 0) ++ (Big 1 (l.getD 1 0) ++ (Big 2 (Num ((l.drop 2).take 2)) ++ (Big 4 (Num ((l.drop 4).take 4)) ++ Big 4 (Num ((l.drop 8).take 4))))) = _
    rw [Big_Num2 (by simp; omega) ((ho.drop _).take _), Big_Num4 (by simp; omega) ((ho.drop _).take _), Big_Num4 (by simp; omega) ((ho.drop _).take _)]
    have g0 : Big 1 (l.getD 0 0) = l.take 1 := by
      have := Big_Num1 (l := l.take 1) (by simp; omega) (ho.take _)
      rwa [getD_take', if_pos (by omega)] at this
    have g1 : Big 1 (l.getD 1 0) = (l.drop 1).take 1 := by
      have := Big_Num1 (l := (l.drop 1).take 1) (by simp; omega) ((ho.drop _).take _)
      rwa [getD_take', if_pos (by omega), getD_drop'] at this
    rw [g0, g1]
    rw [show (12 : Nat) = 1 + (1 + (2 + (4 + 4))) from rfl, List.take_add, List.take_add, List.take_add, List.take_add, List.drop_drop, List.drop_drop, List.drop_drop]
  have hX : encX (ppk l) s = (l.drop (pat1 l)).take (pat2 l - pat1 l) := by
    show (if pext l = true then Big 2 (pprof l) ++ (Big 2 ((s.ne / 4 : Nat) : Int) ++ pexts l) else []) = _
    cases hx : pext l
    · rw [e2, hx]; simp
    · have hne := h.ne
      have := hx4 hx
      rw [hx] at hne e2
      simp only [if_true] at hne e2 ⊢
      unfold pprof pexts
      rw [hx, if_pos rfl, if_pos rfl, Big_Num2 (by simp; omega) ((ho.drop _).take _)]
      have hw : ((s.ne / 4 : Nat) : Int) = Num ((l.drop (pat1 l + 2)).take 2) := by
        have hb := num_lt (ho.drop (pat1 l + 2)) 2 (by rw [List.length_drop]; omega) 65536 rfl
        unfold pwd at hne; omega
      rw [hw, Big_Num2 (by simp; omega) ((ho.drop _).take _), show pat2 l - pat1 l = 2 + (2 + 4 * pwd l) from by omega, List.take_add, List.take_add, List.drop_drop, List.drop_drop]
  have hL : longs (ppk l).csrc = (l.drop 12).take (4 * pnc l) := longs_pcsrc ho (pnc l) (by omega)
  have hT : (ppk l).payload ++ (ppk l).pad = l.drop (pat2 l) := List.take_append_drop (pend l) (ptail l)
  have hle : pat1 l ≤ pat2 l := by rw [e2]; split <;> omega
  rw [enc_eq, hH, hX, hL, hT]
  have t3 : (l.drop (pat1 l)).take (pat2 l - pat1 l) ++ l.drop (pat2 l) = l.drop (pat1 l) := by
    have := List.take_append_drop (pat2 l - pat1 l) (l.drop (pat1 l))
    rwa [List.drop_drop, show pat1 l + (pat2 l - pat1 l) = pat2 l from by omega] at this
  have t2 : (l.drop 12).take (4 * pnc l) ++ l.drop (pat1 l) = l.drop 12 := by
    have := List.take_append_drop (4 * pnc l) (l.drop 12)
    rwa [List.drop_drop] at this
  rw [t3, t2, List.take_append_drop]
end Go.Proofs.Ytkoldfoliigifaa

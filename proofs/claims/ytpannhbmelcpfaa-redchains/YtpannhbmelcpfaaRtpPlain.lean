
/-
  What is written is parsed back: the plain side.
-/
import Derived.Test.YtpannhbmelcpfaaRtpParse1
import Derived.Test.YtpannhbmelcpfaaRtpWrite
namespace Go.Proofs.Ytpannhbmelcpfaa
open Go.RowKit Go.Shelf
set_option linter.unusedVariables false
theorem dropA {A B : List Int} {n : Nat} (h : A.length = n) (k : Nat) : (A ++ B).drop (n + k) = B.drop k := by
  subst h; rw [← List.drop_drop, List.drop_left]
theorem takeA {A B : List Int} {n : Nat} (h : A.length = n) : (A ++ B).take n = A := by subst h; simp
def encH (p : Pk) (s : Pl) : List Int := Big 1 (hd0 p s) ++ (Big 1 (hd1 p) ++ (Big 2 p.seq ++ (Big 4 p.ts ++ Big 4 p.ssrc)))
def encX (p : Pk) (s : Pl) : List Int := if p.hasExt then Big 2 p.profile ++ (Big 2 ((s.ne / 4 : Nat) : Int) ++ p.ext) else []
theorem encH_len (p : Pk) (s : Pl) : (encH p s).length = 12 := by simp [encH, Big_len]
theorem enc_eq (p : Pk) (s : Pl) : enc p s = encH p s ++ (longs p.csrc ++ (encX p s ++ (p.payload ++ p.pad))) := by simp [enc, encH, encX]
theorem longs_len (l : List Int) : (longs l).length = 4 * l.length := by
  induction l with
  | nil => rfl
  | cons c l ih => simp only [longs, List.map_cons, List.flatten_cons, List.length_append, Big_len, List.length_cons] at *; omega
theorem longs_at (R : List Int) : ∀ (cs : List Int) (i : Nat), i < cs.length → ((longs cs ++ R).drop (4 * i)).take 4 = Big 4 (cs.getD i 0)
  | [], i, h => by simp at h
  | c :: cs, 0, _ => by
    have e : longs (c :: cs) = Big 4 c ++ longs cs := by simp [longs]
    rw [e, List.append_assoc]
    simpa using takeA (B := longs cs ++ R) (Big_len 4 c)
  | c :: cs, i + 1, h => by
    have e : longs (c :: cs) = Big 4 c ++ longs cs := by simp [longs]
    rw [e, List.append_assoc, show 4 * (i + 1) = 4 + 4 * i from by omega, dropA (Big_len 4 c)]
    have := longs_at R cs i (by simpa using h)
    simpa using this
theorem Num_Big2 (x : Int) (h : 0 ≤ x ∧ x < 65536) : Num (Big 2 x) = x := by rw [Big2]; simp [Num]; omega
theorem Num_Big4 (x : Int) (h : 0 ≤ x ∧ x < 4294967296) : Num (Big 4 x) = x := by rw [Big4]; simp [Num]; omega
/-- A valid packet's parts. -/
structure Vld (p : Pk) (s : Pl) : Prop where
  nc : p.csrc.length = s.nc
  ne : p.ext.length = s.ne
  np : p.payload.length = s.np
  nd : p.pad.length = s.nd
  cs : ∀ i, i < p.csrc.length → 0 ≤ p.csrc.getD i 0 ∧ p.csrc.getD i 0 < 4294967296
  seq : 0 ≤ p.seq ∧ p.seq < 65536
  ts : 0 ≤ p.ts ∧ p.ts < 4294967296
  ssrc : 0 ≤ p.ssrc ∧ p.ssrc < 4294967296
  prof : 0 ≤ p.profile ∧ p.profile < 65536
  pt : 0 ≤ p.pt ∧ p.pt ≤ 127
  n15 : s.nc ≤ 15
  ext : p.hasExt = true → s.ne % 4 = 0 ∧ s.ne < 262144
  noext : p.hasExt = false → s.ne = 0 ∧ p.profile = 0
  pad : s.nd = 0 ∨ p.pad.getD (s.nd - 1) 0 = s.nd
  size : sz p s ≤ 1500
  okp : Str.Ok p.pad
theorem vld_of {W : World} {p : Pk} {s : Pl} (h : PkAt W p s) (hw : wcode p s = 0) : Vld p s := by
  unfold wcode at hw
  split at hw
  · cases hw
  · rename_i h1
    split at hw
    · cases hw
    · rename_i h2
      split at hw
      · cases hw
      · rename_i h3
        have e1 : ¬ p.pt < 0 := fun e => h1 (.inl e)
        have e2 : ¬ 127 < p.pt := fun e => h1 (.inr (.inl e))
        have e3 : vext p s = true := by cases e : vext p s <;> simp_all
        have e4 : vpad p.pad s.nd = true := by cases e : vpad p.pad s.nd <;> simp_all
        obtain ⟨hl, b, o, hr⟩ := h.csrc
        refine ⟨hl, h.ext.len, h.pay.len, h.pad.len, fun i hi => (hr i (by omega)).2.2.2, h.seq, h.ts, h.ssrc, h.prof, ⟨by omega, by omega⟩, by omega, fun hx => ?_, fun hx => ?_, ?_, by omega, h.pad.ok⟩
        · unfold vext at e3; rw [hx] at e3; simp at e3
          refine ⟨e3, ?_⟩
          unfold sz at h3; rw [hx] at h3; simp at h3; omega
        · unfold vext at e3; rw [hx] at e3; simpa using e3
        · unfold vpad at e4; simpa using e4
theorem encX_len {p : Pk} {s : Pl} (h : Vld p s) : (encX p s).length = if p.hasExt = true then 4 + s.ne else 0 := by
  unfold encX
  cases p.hasExt <;> simp [Big_len, h.ne]
  omega
theorem enc_len {p : Pk} {s : Pl} (h : Vld p s) : (enc p s).length = sz p s := by
  rw [enc_eq]
  simp only [List.length_append, encH_len, longs_len, encX_len h, h.nc, h.np, h.nd]
  unfold sz; omega
theorem enc_cons (p : Pk) (s : Pl) : enc p s = (hd0 p s % 256) :: (hd1 p % 256) :: (Big 2 p.seq ++ (Big 4 p.ts ++ (Big 4 p.ssrc ++ (longs p.csrc ++ (encX p s ++ (p.payload ++ p.pad)))))) := by
  rw [enc_eq]; simp [encH, Big1]
theorem hd0_bd {p : Pk} {s : Pl} (h : Vld p s) : 128 ≤ hd0 p s ∧ hd0 p s < 192 := by
  have := h.n15; unfold hd0; split <;> split <;> omega
theorem hd1_bd {p : Pk} {s : Pl} (h : Vld p s) : 0 ≤ hd1 p ∧ hd1 p < 256 := by
  have := h.pt; unfold hd1; split <;> omega
theorem enc0 {p : Pk} {s : Pl} (h : Vld p s) : (enc p s).getD 0 0 = hd0 p s := by
  rw [enc_cons]; have := hd0_bd h; simp; omega
theorem enc1 {p : Pk} {s : Pl} (h : Vld p s) : (enc p s).getD 1 0 = hd1 p := by
  rw [enc_cons]; have := hd1_bd h; simp; omega
theorem enc_nc {p : Pk} {s : Pl} (h : Vld p s) : pnc (enc p s) = s.nc := by
  unfold pnc; rw [enc0 h]; have := h.n15; unfold hd0; split <;> split <;> omega
theorem enc_pext {p : Pk} {s : Pl} (h : Vld p s) : pext (enc p s) = p.hasExt := by
  unfold pext; rw [enc0 h]; have := h.n15; unfold hd0
  cases p.hasExt <;> simp <;> split <;> omega
theorem enc_ppad {p : Pk} {s : Pl} (h : Vld p s) : ppad (enc p s) = decide (0 < s.nd) := by
  unfold ppad; rw [enc0 h]; have := h.n15; unfold hd0
  by_cases hd : 0 < s.nd <;> simp [hd] <;> split <;> omega
theorem enc_v {p : Pk} {s : Pl} (h : Vld p s) : (enc p s).getD 0 0 / 64 = 2 := by rw [enc0 h]; have := hd0_bd h; omega
theorem enc_at1 {p : Pk} {s : Pl} (h : Vld p s) : pat1 (enc p s) = 12 + 4 * s.nc := by unfold pat1; rw [enc_nc h]
theorem enc_drop12 (p : Pk) (s : Pl) (k : Nat) : (enc p s).drop (12 + k) = (longs p.csrc ++ (encX p s ++ (p.payload ++ p.pad))).drop k := by rw [enc_eq, dropA (encH_len p s)]
theorem enc_dropX {p : Pk} {s : Pl} (h : Vld p s) (k : Nat) : (enc p s).drop (12 + 4 * s.nc + k) = (encX p s ++ (p.payload ++ p.pad)).drop k := by
  rw [Nat.add_assoc, enc_drop12, dropA (by rw [longs_len, h.nc])]
theorem enc_wd {p : Pk} {s : Pl} (h : Vld p s) (hx : p.hasExt = true) : pwd (enc p s) = s.ne / 4 := by
  unfold pwd
  rw [enc_at1 h, enc_dropX h]
  unfold encX; rw [hx, if_pos rfl, List.append_assoc, show (2 : Nat) = 2 + 0 from rfl, dropA (Big_len 2 _), List.drop_zero, List.append_assoc, takeA (Big_len 2 _), Num_Big2 _ ⟨by omega, by have := h.ext hx; omega⟩]
  simp; omega
theorem enc_at2 {p : Pk} {s : Pl} (h : Vld p s) : pat2 (enc p s) = 12 + 4 * s.nc + (if p.hasExt = true then 4 + s.ne else 0) := by
  unfold pat2
  rw [enc_pext h, enc_at1 h]
  cases hx : p.hasExt
  · simp
  · have := h.ext hx
    simp only [if_true]
    rw [enc_wd h hx]; omega
theorem enc_tail {p : Pk} {s : Pl} (h : Vld p s) : ptail (enc p s) = p.payload ++ p.pad := by
  unfold ptail
  have e := dropA (B := p.payload ++ p.pad) (encX_len h) 0
  rw [Nat.add_zero, List.drop_zero] at e
  rw [enc_at2 h, enc_dropX h, e]
theorem enc_psize {p : Pk} {s : Pl} (h : Vld p s) (hd : 0 < s.nd) : psize (p.payload ++ p.pad) = s.nd := by
  have hl : (p.payload ++ p.pad).length = s.np + s.nd := by rw [List.length_append, h.np, h.nd]
  have hg : (p.payload ++ p.pad).getD (s.np + s.nd - 1) 0 = s.nd := by
    rw [List.getD_eq_getElem?_getD, List.getElem?_append_right (by rw [h.np]; omega), h.np, ← List.getD_eq_getElem?_getD, show s.np + s.nd - 1 - s.np = s.nd - 1 from by omega]
    rcases h.pad with e | e
    · omega
    · exact e
  unfold psize
  rw [hl, hg, if_neg (by omega), if_neg (by omega)]; simp
theorem enc_pend {p : Pk} {s : Pl} (h : Vld p s) : pend (enc p s) = s.np := by
  unfold pend
  rw [enc_tail h, enc_ppad h, List.length_append, h.np, h.nd]
  by_cases hd : 0 < s.nd
  · rw [if_pos (by simpa using hd), enc_psize h hd]; omega
  · rw [if_neg (by simpa using hd)]; omega
/-- What is written is parsed: no error. -/
theorem enc_code {p : Pk} {s : Pl} (h : Vld p s) : pcode (enc p s).length (enc p s) = 0 := by
  have hl := enc_len h
  have hz : sz p s = 12 + 4 * s.nc + s.np + s.nd + (if p.hasExt then 4 + s.ne else 0) := rfl
  rw [pcode, if_neg (by rw [hl, hz]; omega), if_neg (by simpa using enc_v h), if_neg (by rw [hl, hz, enc_at1 h]; omega), if_neg, if_neg, if_neg]
  · rintro ⟨h1, h2⟩
    rw [enc_ppad h] at h1
    rw [enc_tail h, enc_psize h (by simpa using h1)] at h2
    simp at h1; omega
  · rw [hl, hz, enc_at2 h]; omega
  · rintro ⟨h1, h2⟩
    rw [enc_pext h] at h1
    rw [hl, hz, enc_at1 h, h1] at h2
    simp at h2; omega
theorem enc_codeF {p : Pk} {s : Pl} (h : Vld p s) : (enc p s).length ≤ 1500 := by rw [enc_len h]; exact h.size
theorem enc_csrc {p : Pk} {s : Pl} (h : Vld p s) : pcsrc (enc p s) (pnc (enc p s)) = p.csrc := by
  rw [enc_nc h]
  refine getD_ext (by simp [pcsrc, h.nc]) fun i hi => ?_
  have hi' : i < s.nc := by simpa [pcsrc] using hi
  have e : (pcsrc (enc p s) s.nc).getD i 0 = Num (((enc p s).drop (12 + 4 * i)).take 4) := by
    simp [pcsrc, List.getD_eq_getElem?_getD, hi']
  rw [e, enc_drop12, longs_at _ _ _ (by rw [h.nc]; exact hi'), Num_Big4 _ (h.cs i (by rw [h.nc]; exact hi'))]
theorem enc_fld {p : Pk} {s : Pl} (h : Vld p s) : Num (((enc p s).drop 2).take 2) = p.seq ∧ Num (((enc p s).drop 4).take 4) = p.ts ∧ Num (((enc p s).drop 8).take 4) = p.ssrc := by
  have e := enc_cons p s
  rw [e]
  refine ⟨?_, ?_, ?_⟩
  · simp only [List.drop_succ_cons, List.drop_zero]
    rw [takeA (Big_len 2 _), Num_Big2 _ h.seq]
  · simp only [List.drop_succ_cons]
    rw [show (2 : Nat) = 2 + 0 from rfl, dropA (Big_len 2 _), List.drop_zero, takeA (Big_len 4 _), Num_Big4 _ h.ts]
  · simp only [List.drop_succ_cons]
    rw [show (6 : Nat) = 2 + 4 from rfl, dropA (Big_len 2 _), show (4 : Nat) = 4 + 0 from rfl, dropA (Big_len 4 _), List.drop_zero, Nat.add_zero, takeA (Big_len 4 _), Num_Big4 _ h.ssrc]
theorem enc_back {p : Pk} {s : Pl} (h : Vld p s) : ppk (enc p s) = p := by
  have h1 := hd1_bd h
  have hpt := h.pt
  obtain ⟨f1, f2, f3⟩ := enc_fld h
  have := ppk_eq (l := enc p s) (m := p.marker) (pt := p.pt) (lc := p.csrc) (h := p.hasExt) (pr := p.profile) (le := p.ext) (lp := p.payload) (ld := p.pad)
    (by rw [enc1 h]; unfold hd1; cases p.marker <;> simp <;> omega) (by rw [enc1 h]; unfold hd1; split <;> omega) f1 f2 f3 (enc_csrc h) (enc_pext h)
    (by
      unfold pprof; rw [enc_pext h, enc_at1 h]
      cases hx : p.hasExt
      · simp [(h.noext hx).2]
      · simp only [if_true]
        rw [show 12 + 4 * s.nc = 12 + 4 * s.nc + 0 from rfl, enc_dropX h, List.drop_zero]
        unfold encX; rw [hx, if_pos rfl, List.append_assoc, takeA (Big_len 2 _), Num_Big2 _ h.prof])
    (by
      unfold pexts; rw [enc_pext h, enc_at1 h]
      cases hx : p.hasExt
      · simp only [Bool.false_eq_true, if_false]
        exact (List.eq_nil_of_length_eq_zero (by rw [h.ne, (h.noext hx).1])).symm
      · simp only [if_true]
        rw [enc_wd h hx, enc_dropX h]
        unfold encX; rw [hx, if_pos rfl, List.append_assoc, List.append_assoc, show (4 : Nat) = 2 + (2 + 0) from rfl, dropA (Big_len 2 _), dropA (Big_len 2 _), List.drop_zero]
        exact takeA (by rw [h.ne]; have := h.ext hx; omega))
    (by rw [enc_tail h, enc_pend h]; exact takeA h.np)
    (by rw [enc_tail h, enc_pend h]; have := dropA (B := p.pad) h.np 0; rwa [Nat.add_zero, List.drop_zero] at this)
  rw [this]
end Go.Proofs.Ytpannhbmelcpfaa

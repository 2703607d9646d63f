
/-
  RED: the plain side: blocks to bytes and back.
-/
import Derived.Test.YtfmabpddacfbcaaRtpPlain2
namespace Go.Proofs.Ytfmabpddacfbcaa
open Go.RowKit Go.Shelf
set_option linter.unusedVariables false
def hB (p o : Int) (n : Nat) : List Int := Big 1 (128 + p) ++ (Big 1 ((o * 1024 + n) / 65536) ++ Big 2 ((o * 1024 + n) % 65536))
theorem hB_eq (p o : Int) (n : Nat) : hB p o n = [(128 + p) % 256, (o * 1024 + n) / 65536 % 256, (o * 1024 + n) % 65536 / 256 % 256, (o * 1024 + n) % 65536 % 256] := by
  simp only [hB, Big1, Big2]; rfl
theorem hB_len (p o : Int) (n : Nat) : (hB p o n).length = 4 := by rw [hB_eq]; rfl
def hds (pt of : Nat → Int) (ds : Nat → List Int) : Nat → List Int
  | 0 => []
  | k + 1 => hds pt of ds k ++ hB (pt k) (of k) (ds k).length
def dts (ds : Nat → List Int) : Nat → List Int
  | 0 => []
  | k + 1 => dts ds k ++ ds k
def psum (f : Nat → Nat) : Nat → Nat
  | 0 => 0
  | i + 1 => psum f i + f i
/-- The bytes of blocks 0 to k. -/
def renc (pt of : Nat → Int) (ds : Nat → List Int) (k : Nat) : List Int := hds pt of ds k ++ (Big 1 (pt k) ++ dts ds (k + 1))
theorem hds_len (pt of : Nat → Int) (ds : Nat → List Int) : ∀ k, (hds pt of ds k).length = 4 * k
  | 0 => rfl
  | k + 1 => by simp only [hds, List.length_append, hds_len pt of ds k, hB_len]; omega
theorem dts_len (ds : Nat → List Int) : ∀ k, (dts ds k).length = psum (fun i => (ds i).length) k
  | 0 => rfl
  | k + 1 => by simp only [dts, List.length_append, dts_len ds k, psum]
theorem psum_congr {f g : Nat → Nat} : ∀ k, (∀ i, i < k → f i = g i) → psum f k = psum g k
  | 0, _ => rfl
  | k + 1, h => by simp only [psum]; rw [psum_congr k (fun i hi => h i (by omega)), h k (by omega)]
theorem psum_le (f : Nat → Nat) {i k : Nat} (h : i ≤ k) : psum f i ≤ psum f k := by
  induction k with
  | zero => have : i = 0 := by omega
            subst this; exact Nat.le_refl _
  | succ k ih =>
    by_cases e : i = k + 1
    · subst e; exact Nat.le_refl _
    · exact Nat.le_trans (ih (by omega)) (by simp only [psum]; omega)
theorem hds_split (pt of : Nat → Int) (ds : Nat → List Int) {i k : Nat} (h : i < k) : ∃ t, hds pt of ds k = hds pt of ds i ++ (hB (pt i) (of i) (ds i).length ++ t) := by
  induction k with
  | zero => omega
  | succ k ih =>
    by_cases e : i = k
    · subst e; exact ⟨[], by simp [hds]⟩
    · obtain ⟨t, ht⟩ := ih (by omega)
      exact ⟨t ++ hB (pt k) (of k) (ds k).length, by simp only [hds]; rw [ht]; simp⟩
theorem dts_split (ds : Nat → List Int) {i k : Nat} (h : i < k) : ∃ t, dts ds k = dts ds i ++ (ds i ++ t) := by
  induction k with
  | zero => omega
  | succ k ih =>
    by_cases e : i = k
    · subst e; exact ⟨[], by simp [dts]⟩
    · obtain ⟨t, ht⟩ := ih (by omega)
      exact ⟨t ++ ds k, by simp only [dts]; rw [ht]; simp⟩
/-! Parsed. -/
def xh (l : List Int) (i : Nat) : Int := l.getD (4 * i) 0
def rh (l : List Int) (i : Nat) : Int := Num ((l.drop (4 * i + 1)).take 1) * 65536 + Num ((l.drop (4 * i + 2)).take 2)
def ppt (l : List Int) (i : Nat) : Int := xh l i % 128
def pof (l : List Int) (i : Nat) : Int := if 128 ≤ xh l i then rh l i / 1024 else 0
def psz (l : List Int) (i : Nat) : Nat := (rh l i % 1024).toNat
def dpos (l : List Int) (K i : Nat) : Nat := 4 * K + 1 + psum (psz l) i
def pdat (l : List Int) (K i : Nat) : List Int := if i < K then (l.drop (dpos l K i)).take (psz l i) else l.drop (dpos l K i)
/-- The headers of l are K with more behind and one last. -/
structure HdOk (l : List Int) (K : Nat) : Prop where
  lt : K < 8
  len : 4 * K < l.length
  last : xh l K < 128
  more : ∀ j, j < K → 128 ≤ xh l j
structure Good (l : List Int) (K : Nat) : Prop where
  hd : HdOk l K
  fit : dpos l K K ≤ l.length
structure RVld (pt of : Nat → Int) (ds : Nat → List Int) (k : Nat) : Prop where
  pts : ∀ i, i ≤ k → 0 ≤ pt i ∧ pt i ≤ 127
  ofs : ∀ i, i ≤ k → 0 ≤ of i ∧ of i ≤ 16383
  of0 : of k = 0
  oks : ∀ i, i ≤ k → Str.Ok (ds i)
  few : k < 8
  len : ∀ i, i < k → (ds i).length ≤ 1023
  tot : 4 * k + 1 + psum (fun i => (ds i).length) (k + 1) ≤ 1500
theorem getD_dropA (A B : List Int) (k j : Nat) (h : A.length = k) : (A ++ B).getD (k + j) 0 = B.getD j 0 := by
  rw [getD_append', if_neg (by omega), h, Nat.add_sub_cancel_left]
section enc
variable {pt of : Nat → Int} {ds : Nat → List Int} {k : Nat}
theorem renc_len (h : RVld pt of ds k) : (renc pt of ds k).length = 4 * k + 1 + psum (fun i => (ds i).length) (k + 1) := by
  simp only [renc, List.length_append, hds_len, Big_len, dts_len]; omega
theorem renc_at {i : Nat} (hi : i < k) : ∃ t, renc pt of ds k = hds pt of ds i ++ (hB (pt i) (of i) (ds i).length ++ t) := by
  obtain ⟨t, ht⟩ := hds_split pt of ds hi
  exact ⟨t ++ (Big 1 (pt k) ++ dts ds (k + 1)), by simp only [renc]; rw [ht]; simp⟩
theorem renc_xh (h : RVld pt of ds k) {i : Nat} (hi : i < k) : xh (renc pt of ds k) i = 128 + pt i := by
  obtain ⟨t, ht⟩ := renc_at (pt := pt) (of := of) (ds := ds) hi
  have := h.pts i (by omega)
  unfold xh
  rw [ht, show 4 * i = 4 * i + 0 from rfl, getD_dropA _ _ _ 0 (hds_len pt of ds i), hB_eq]
  simp; omega
theorem renc_xk (h : RVld pt of ds k) : xh (renc pt of ds k) k = pt k := by
  have := h.pts k (by omega)
  unfold xh
  rw [renc, show 4 * k = 4 * k + 0 from rfl, getD_dropA _ _ _ 0 (hds_len pt of ds k), Big1]
  simp; omega
theorem renc_rh (h : RVld pt of ds k) {i : Nat} (hi : i < k) : rh (renc pt of ds k) i = of i * 1024 + (ds i).length := by
  obtain ⟨t, ht⟩ := renc_at (pt := pt) (of := of) (ds := ds) hi
  have h1 := h.ofs i (by omega)
  have h2 := h.len i hi
  unfold rh
  rw [ht, dropA (hds_len pt of ds i), dropA (hds_len pt of ds i), hB_eq]
  generalize (ds i).length = n at h2
  simp [Num]; omega
theorem renc_psz (h : RVld pt of ds k) {i : Nat} (hi : i < k) : psz (renc pt of ds k) i = (ds i).length := by
  unfold psz; rw [renc_rh h hi]; have := h.len i hi; omega
theorem renc_ppt (h : RVld pt of ds k) {i : Nat} (hi : i ≤ k) : ppt (renc pt of ds k) i = pt i := by
  unfold ppt
  have := h.pts i hi
  by_cases e : i = k
  · subst e; rw [renc_xk h]; omega
  · rw [renc_xh h (by omega)]; omega
theorem renc_pof (h : RVld pt of ds k) {i : Nat} (hi : i ≤ k) : pof (renc pt of ds k) i = of i := by
  unfold pof
  have := h.pts i hi
  by_cases e : i = k
  · subst e; rw [renc_xk h, if_neg (by omega), h.of0]
  · rw [renc_xh h (by omega), if_pos (by omega), renc_rh h (by omega)]; have := h.len i (by omega); omega
theorem renc_dpos (h : RVld pt of ds k) {i : Nat} (hi : i ≤ k) : dpos (renc pt of ds k) k i = 4 * k + 1 + psum (fun i => (ds i).length) i := by
  unfold dpos
  rw [psum_congr i (fun j hj => renc_psz h (by omega))]
theorem renc_drop (n : Nat) : (renc pt of ds k).drop (4 * k + 1 + n) = (dts ds (k + 1)).drop n := by
  rw [renc, ← List.append_assoc, dropA (by simp [hds_len, Big_len])]
theorem renc_pdat (h : RVld pt of ds k) {i : Nat} (hi : i ≤ k) : pdat (renc pt of ds k) k i = ds i := by
  unfold pdat
  rw [renc_dpos h hi, renc_drop]
  by_cases e : i = k
  · subst e
    rw [if_neg (by omega)]
    simp only [dts]
    rw [← dts_len, List.drop_left]
  · obtain ⟨t, ht⟩ := dts_split ds (show i < k + 1 by omega)
    rw [if_pos (by omega), renc_psz h (by omega), ht, ← dts_len, List.drop_left, List.take_left]
theorem renc_good (h : RVld pt of ds k) : Good (renc pt of ds k) k where
  hd := ⟨h.few, by rw [renc_len h]; omega, by rw [renc_xk h]; have := h.pts k (by omega); omega, fun j hj => by rw [renc_xh h hj]; have := h.pts j (by omega); omega⟩
  fit := by rw [renc_dpos h (Nat.le_refl _), renc_len h]; simp only [psum]; omega
theorem dts_ok (h : ∀ i, i < k → Str.Ok (ds i)) : Str.Ok (dts ds k) := by
  induction k with
  | zero => exact Str.ok_nil
  | succ k ih => exact (ih (fun i hi => h i (by omega))).append (h k (by omega))
theorem hds_ok (j : Nat) : Str.Ok (hds pt of ds j) := by
  induction j with
  | zero => exact Str.ok_nil
  | succ j ih => exact ih.append ((Big_ok 1 _).append ((Big_ok 1 _).append (Big_ok 2 _)))
theorem renc_ok (h : RVld pt of ds k) : Str.Ok (renc pt of ds k) := (hds_ok k).append ((Big_ok 1 _).append (dts_ok fun i hi => h.oks i (by omega)))
end enc
/-! Written again. -/
section psd
variable {l : List Int} {K : Nat}
theorem Good.fit_i (h : Good l K) {i : Nat} (hi : i ≤ K) : dpos l K i ≤ l.length := Nat.le_trans (by unfold dpos; have := psum_le (psz l) hi; omega) h.fit
theorem Good.dlen (h : Good l K) {i : Nat} (hi : i < K) : (pdat l K i).length = psz l i := by
  unfold pdat
  rw [if_pos hi, List.length_take, List.length_drop]
  have h1 := h.fit_i (i := i + 1) (by omega)
  have : dpos l K (i + 1) = dpos l K i + psz l i := by simp only [dpos, psum]; omega
  omega
theorem rh_bytes (ho : Str.Ok l) {i : Nat} (hi : 4 * i + 4 ≤ l.length) : rh l i = l.getD (4 * i + 1) 0 * 65536 + (l.getD (4 * i + 2) 0 * 256 + l.getD (4 * i + 3) 0) := by
  unfold rh
  rw [byte1 _ (by rw [List.length_drop]; omega), getD_drop']
  have h2 : (l.drop (4 * i + 2)).take 2 = [l.getD (4 * i + 2) 0, l.getD (4 * i + 3) 0] := by
    rw [List.take_add_one, List.take_add_one, List.getElem?_eq_getElem (by rw [List.length_drop]; omega), List.getElem?_eq_getElem (by rw [List.length_drop]; omega)]
    rw [List.getD_eq_getElem?_getD, List.getD_eq_getElem?_getD, List.getElem?_eq_getElem (by omega), List.getElem?_eq_getElem (by omega)]
    simp
  rw [h2]
  simp [Num]
theorem four (ho : Str.Ok l) {i : Nat} (hi : 4 * i + 4 ≤ l.length) : (l.drop (4 * i)).take 4 = [l.getD (4 * i) 0, l.getD (4 * i + 1) 0, l.getD (4 * i + 2) 0, l.getD (4 * i + 3) 0] := by
  rw [List.take_add_one, List.take_add_one, List.take_add_one, List.take_add_one, List.getElem?_eq_getElem (by rw [List.length_drop]; omega), List.getElem?_eq_getElem (by rw [List.length_drop]; omega), List.getElem?_eq_getElem (by rw [List.length_drop]; omega), List.getElem?_eq_getElem (by rw [List.length_drop]; omega)]
  rw [List.getD_eq_getElem?_getD, List.getD_eq_getElem?_getD, List.getD_eq_getElem?_getD, List.getD_eq_getElem?_getD, List.getElem?_eq_getElem (by omega), List.getElem?_eq_getElem (by omega), List.getElem?_eq_getElem (by omega), List.getElem?_eq_getElem (by omega)]
  simp
theorem rh_bd (ho : Str.Ok l) {i : Nat} (hi : 4 * i + 4 ≤ l.length) : 0 ≤ rh l i ∧ rh l i < 16777216 := by
  rw [rh_bytes ho hi]
  have a := ho (4 * i + 1); have b := ho (4 * i + 2); have c := ho (4 * i + 3)
  omega
theorem HdOk.hlen (h : HdOk l K) {i : Nat} (hi : i < K) : 4 * i + 4 ≤ l.length := by have := h.len; omega
theorem psd_hds (h : Good l K) (ho : Str.Ok l) : ∀ i, i ≤ K → hds (ppt l) (pof l) (pdat l K) i = l.take (4 * i)
  | 0, _ => by simp [hds]
  | i + 1, hi => by
    simp only [hds]
    rw [psd_hds h ho i (by omega), h.dlen (by omega), show 4 * (i + 1) = 4 * i + 4 from by omega, List.take_add]
    congr 1
    have hl := h.hd.hlen (show i < K by omega)
    rw [four ho hl, hB_eq]
    have hm := h.hd.more i (by omega)
    have hr := rh_bytes ho hl
    have hb := rh_bd ho hl
    have a := ho (4 * i); have b := ho (4 * i + 1); have c := ho (4 * i + 2); have d := ho (4 * i + 3)
    unfold ppt pof psz
    rw [if_pos hm]
    unfold xh at hm ⊢
    generalize rh l i = r at hr hb ⊢
    have e1 : ((r % 1024).toNat : Int) = r % 1024 := by omega
    rw [e1]
    have e2 : r / 1024 * 1024 + r % 1024 = r := by omega
    rw [e2]
    simp only [List.cons.injEq, and_true]
    omega
theorem psd_dts (h : Good l K) : ∀ i, i ≤ K → dts (pdat l K) i = (l.drop (4 * K + 1)).take (psum (psz l) i)
  | 0, _ => by simp [dts, psum]
  | i + 1, hi => by
    simp only [dts, psum]
    rw [psd_dts h i (by omega), List.take_add, List.drop_drop]
    congr 1
    unfold pdat
    rw [if_pos (by omega)]
    rfl
theorem psd_back (h : Good l K) (ho : Str.Ok l) : renc (ppt l) (pof l) (pdat l K) K = l := by
  unfold renc
  rw [psd_hds h ho K (Nat.le_refl _)]
  have h1 : dts (pdat l K) (K + 1) = l.drop (4 * K + 1) := by
    simp only [dts]
    rw [psd_dts h K (Nat.le_refl _)]
    have : pdat l K K = (l.drop (4 * K + 1)).drop (psum (psz l) K) := by
      unfold pdat; rw [if_neg (by omega), List.drop_drop]; rfl
    rw [this, List.take_append_drop]
  have h2 : Big 1 (ppt l K) = [l.getD (4 * K) 0] := by
    rw [Big1]
    have := h.hd.last; have := ho (4 * K)
    unfold ppt xh at *
    congr 1; omega
  have hl := h.hd.len
  rw [h1, h2]
  have h3 : [l.getD (4 * K) 0] ++ l.drop (4 * K + 1) = l.drop (4 * K) := by
    rw [List.drop_eq_getElem_cons hl, List.getD_eq_getElem?_getD, List.getElem?_eq_getElem hl]; rfl
  rw [h3, List.take_append_drop]
theorem psd_vld (h : Good l K) (ho : Str.Ok l) (hn : l.length ≤ 1500) : RVld (ppt l) (pof l) (pdat l K) K where
  pts i hi := by unfold ppt; omega
  ofs i hi := by
    unfold pof
    split
    · rename_i hx
      have hk : i < K := by
        rcases Nat.lt_or_ge i K with e | e
        · exact e
        · have : i = K := by omega
          subst this; have := h.hd.last; omega
      have := rh_bd ho (h.hd.hlen hk)
      omega
    · omega
  of0 := by unfold pof; rw [if_neg (by have := h.hd.last; omega)]
  oks i hi := by unfold pdat; split
                 · exact (ho.drop _).take _
                 · exact ho.drop _
  few := h.hd.lt
  len i hi := by rw [h.dlen hi]; unfold psz; omega
  tot := by
    have := congrArg List.length (psd_back h ho)
    simp only [renc, List.length_append, hds_len, Big_len, dts_len] at this
    omega
end psd
end Go.Proofs.Ytfmabpddacfbcaa

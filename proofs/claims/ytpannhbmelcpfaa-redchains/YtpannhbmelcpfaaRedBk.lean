/-
  RED: the plain side: blocks to bytes and back.
-/
import Derived.Test.YtpannhbmelcpfaaRtpPlain2
namespace Go.Proofs.Ytpannhbmelcpfaa
open Go.RowKit Go.Shelf
set_option linter.unusedVariables false
def hB (p o : Int) (n : Nat) : List Int := Big 1 (128 + p) ++ (Big 1 ((o * 1024 + n) / 65536) ++ Big 2 ((o * 1024 + n) % 65536))
theorem hB_eq (p o : Int) (n : Nat) : hB p o n = [(128 + p) % 256, (o * 1024 + n) / 65536 % 256, (o * 1024 + n) % 65536 / 256 % 256, (o * 1024 + n) % 65536 % 256] := by
  simp only [hB, Big1, Big2]; rfl
theorem hB_len (p o : Int) (n : Nat) : (hB p o n).length = 4 := by rw [hB_eq]; rfl
def hds (pt of : Nat → Int) (ds : Nat → List Int) : Nat → List Int
  | 0 => []
  | k + 1 => hds pt of ds k ++ hB (pt k) (of k) (ds k).length
def dts (ds : Nat → List Int) : Nat → List Int
  | 0 => []
  | k + 1 => dts ds k ++ ds k
def psum (f : Nat → Nat) : Nat → Nat
  | 0 => 0
  | i + 1 => psum f i + f i
/-- The bytes of blocks 0 to k. -/
def renc (pt of : Nat → Int) (ds : Nat → List Int) (k : Nat) : List Int := hds pt of ds k ++ (Big 1 (pt k) ++ dts ds (k + 1))
theorem hds_len (pt of : Nat → Int) (ds : Nat → List Int) : ∀ k, (hds pt of ds k).length = 4 * k
  | 0 => rfl
  | k + 1 => by simp only [hds, List.length_append, hds_len pt of ds k, hB_len]; omega
theorem dts_len (ds : Nat → List Int) : ∀ k, (dts ds k).length = psum (fun i => (ds i).length) k
  | 0 => rfl
  | k + 1 => by simp only [dts, List.length_append, dts_len ds k, psum]
theorem psum_congr {f g : Nat → Nat} : ∀ k, (∀ i, i < k → f i = g i) → psum f k = psum g k
  | 0, _ => rfl
  | k + 1, h => by simp only [psum]; rw [psum_congr k (fun i hi => h i (by omega)), h k (by omega)]
theorem psum_le (f : Nat → Nat) {i k : Nat} (h : i ≤ k) : psum f i ≤ psum f k := by
  induction k with
  | zero => have : i = 0 := by omega
            subst this; exact Nat.le_refl _
  | succ k ih =>
    by_cases e : i = k + 1
    · subst e; exact Nat.le_refl _
    · exact Nat.le_trans (ih (by omega)) (by simp only [psum]; omega)
theorem hds_split (pt of : Nat → Int) (ds : Nat → List Int) {i k : Nat} (h : i < k) : ∃ t, hds pt of ds k = hds pt of ds i ++ (hB (pt i) (of i) (ds i).length ++ t) := by
  induction k with
  | zero => omega
  | succ k ih =>
    by_cases e : i = k
    · subst e; exact ⟨[], by simp [hds]⟩
    · obtain ⟨t, ht⟩ := ih (by omega)
      exact ⟨t ++ hB (pt k) (of k) (ds k).length, by simp only [hds]; rw [ht]; simp⟩
theorem dts_split (ds : Nat → List Int) {i k : Nat} (h : i < k) : ∃ t, dts ds k = dts ds i ++ (ds i ++ t) := by
  induction k with
  | zero => omega
  | succ k ih =>
    by_cases e : i = k
    · subst e; exact ⟨[], by simp [dts]⟩
    · obtain ⟨t, ht⟩ := ih (by omega)
      exact ⟨t ++ ds k, by simp only [dts]; rw [ht]; simp⟩
/-! Parsed. -/
def xh (l : List Int) (i : Nat) : Int := l.getD (4 * i) 0
def rh (l : List Int) (i : Nat) : Int := Num ((l.drop (4 * i + 1)).take 1) * 65536 + Num ((l.drop (4 * i + 2)).take 2)
def ppt (l : List Int) (i : Nat) : Int := xh l i % 128
def pof (l : List Int) (i : Nat) : Int := if 128 ≤ xh l i then rh l i / 1024 else 0
def psz (l : List Int) (i : Nat) : Nat := (rh l i % 1024).toNat
def dpos (l : List Int) (K i : Nat) : Nat := 4 * K + 1 + psum (psz l) i
def pdat (l : List Int) (K i : Nat) : List Int := if i < K then (l.drop (dpos l K i)).take (psz l i) else l.drop (dpos l K i)
/-- The headers of l are K with more behind and one last. -/
structure HdOk (l : List Int) (K : Nat) : Prop where
  lt : K < 8
  len : 4 * K < l.length
  last : xh l K < 128
  more : ∀ j, j < K → 128 ≤ xh l j
structure Good (l : List Int) (K : Nat) : Prop where
  hd : HdOk l K
  fit : dpos l K K ≤ l.length
structure RVld (pt of : Nat → Int) (ds : Nat → List Int) (k : Nat) : Prop where
  pts : ∀ i, i ≤ k → 0 ≤ pt i ∧ pt i ≤ 127
  ofs : ∀ i, i ≤ k → 0 ≤ of i ∧ of i ≤ 16383
  of0 : of k = 0
  oks : ∀ i, i ≤ k → Str.Ok (ds i)
  few : k < 8
  len : ∀ i, i < k → (ds i).length ≤ 1023
  tot : 4 * k + 1 + psum (fun i => (ds i).length) (k + 1) ≤ 1500
theorem getD_dropA (A B : List Int) (k j : Nat) (h : A.length = k) : (A ++ B).getD (k + j) 0 = B.getD j 0 := by
  rw [getD_append', if_neg (by omega), h, Nat.add_sub_cancel_left]
section enc
variable {pt of : Nat → Int} {ds : Nat → List Int} {k : Nat}
theorem renc_len (h : RVld pt of ds k) : (renc pt of ds k).length = 4 * k + 1 + psum (fun i => (ds i).length) (k + 1) := by
  simp only [renc, List.length_append, hds_len, Big_len, dts_len]; omega
theorem renc_at {i : Nat} (hi : i < k) : ∃ t, renc pt of ds k = hds pt of ds i ++ (hB (pt i) (of i) (ds i).length ++ t) := by
  obtain ⟨t, ht⟩ := hds_split pt of ds hi
  exact ⟨t ++ (Big 1 (pt k) ++ dts ds (k + 1)), by simp only [renc]; rw [ht]; simp⟩
theorem renc_xh (h : RVld pt of ds k) {i : Nat} (hi : i < k) : xh (renc pt of ds k) i = 128 + pt i := by
  obtain ⟨t, ht⟩ := renc_at (pt := pt) (of := of) (ds := ds) hi
  have := h.pts i (by omega)
  unfold xh
  rw [ht, show 4 * i = 4 * i + 0 from rfl, getD_dropA _ _ _ 0 (hds_len pt of ds i), hB_eq]
  simp; omega
theorem renc_xk (h : RVld pt of ds k) : xh (renc pt of ds k) k = pt k := by
  have := h.pts k (by omega)
  unfold xh
  rw [renc, show 4 * k = 4 * k + 0 from rfl, getD_dropA _ _ _ 0 (hds_len pt of ds k), Big1]
  simp; omega
theorem renc_rh (h : RVld pt of ds k) {i : Nat} (hi : i < k) : rh (renc pt of ds k) i = of i * 1024 + (ds i).length := by
  obtain ⟨t, ht⟩ := renc_at (pt := pt) (of := of) (ds := ds) hi
  have h1 := h.ofs i (by omega)
  have h2 := h.len i hi
  unfold rh
  rw [ht, dropA (hds_len pt of ds i), dropA (hds_len pt of ds i), hB_eq]
  generalize (ds i).length = n at h2
  simp [Num]; omega
theorem renc_psz (h : RVld pt of ds k) {i : Nat} (hi : i < k) : psz (renc pt of ds k) i = (ds i).length := by
  unfold psz; rw [renc_rh h hi]; have := h.len i hi; omega
theorem renc_ppt (h : RVld pt of ds k) {i : Nat} (hi : i ≤ k) : ppt (renc pt of ds k) i = pt i := by
  unfold ppt
  have := h.pts i hi
  by_cases e : i = k
  · subst e; rw [renc_xk h]; omega
  · rw [renc_xh h (by omega)]; omega
theorem renc_pof (h : RVld pt of ds k) {i : Nat} (hi : i ≤ k) : pof (renc pt of ds k) i = of i := by
  unfold pof
  have := h.pts i hi
  by_cases e : i = k
  · subst e; rw [renc_xk h, if_neg (by omega), h.of0]
  · rw [renc_xh h (by omega), if_pos (by omega), renc_rh h (by omega)]; have := h.len i (by omega); omega
theorem renc_dpos (h : RVld pt of ds k) {i : Nat} (hi : i ≤ k) : dpos (renc pt of ds k) k i = 4 * k + 1 + psum (fun i => (ds i).length) i := by
  unfold dpos
  rw [psum_congr i (fun j hj => renc_psz h (by omega))]
theorem renc_drop (n : Nat) : (renc pt of ds k).drop (4 * k + 1 + n) = (dts ds (k + 1)).drop n := by
  rw [renc, ← List.append_assoc, dropA (by simp [hds_len, Big_len])]
theorem renc_pdat (h : RVld pt of ds k) {i : Nat} (hi : i ≤ k) : pdat (renc pt of ds k) k i = ds i := by
  unfold pdat
  rw [renc_dpos h hi, renc_drop]
  by_cases e : i = k
  · subst e
    rw [if_neg (by omega)]
    simp only [dts]
    rw [← dts_len, List.drop_left]
  · obtain ⟨t, ht⟩ := dts_split ds (show i < k + 1 by omega)
    rw [if_pos (by omega), renc_psz h (by omega), ht, ← dts_len, List.drop_left, List.take_left]
theorem renc_good (h : RVld pt of ds k) : Good (renc pt of ds k) k where
  hd := ⟨h.few, by rw [renc_len h]; omega, by rw [renc_xk h]; have := h.pts k (by omega); omega, fun j hj => by rw [renc_xh h hj]; have := h.pts j (by omega); omega⟩
  fit := by rw [renc_dpos h (Nat.le_refl _), renc_len h]; simp only [psum]; omega
theorem dts_ok (h : ∀ i, i < k → Str.Ok (ds i)) : Str.Ok (dts ds k) := by
  induction k with
  | zero => exact Str.ok_nil
  | succ k ih => exact (ih (fun i hi => h i (by omega))).append (h k (by omega))
theorem hds_ok (j : Nat) : Str.Ok (hds pt of ds j) := by
  induction j with
  | zero => exact Str.ok_nil
  | succ j ih => exact ih.append ((Big_ok 1 _).append ((Big_ok 1 _).append (Big_ok 2 _)))
theorem renc_ok (h : RVld pt of ds k) : Str.Ok (renc pt of ds k) := (hds_ok k).append ((Big_ok 1 _).append (dts_ok fun i hi => h.oks i (by omega)))
end enc
/-! Written again. -/
section psd
variable {l : List Int} {K : Nat}
theorem Good.fit_i (h : Good l K) {i : Nat} (hi : i ≤ K) : dpos l K i ≤ l.length := Nat.le_trans (by unfold dpos; have := psum_le (psz l) hi; omega) h.fit
theorem Good.dlen (h : Good l K) {i : Nat} (hi : i < K) : (pdat l K i).length = psz l i := by
  unfold pdat
  rw [if_pos hi, List.length_take, List.length_drop]
  have h1 := h.fit_i (i := i + 1) (by omega)
  have : dpos l K (i + 1) = dpos l K i + psz l i := by simp only [dpos, psum]; omega
  omega
theorem rh_bytes (ho : Str.Ok l) {i : Nat} (hi : 4 * i + 4 ≤ l.length) : rh l i = l.getD (4 * i + 1) 0 * 65536 + (l.getD (4 * i + 2) 0 * 256 + l.getD (4 * i + 3) 0) := by
  unfold rh
  rw [byte1 _ (by rw [List.length_drop]; omega), getD_drop']
  have h2 : (l.drop (4 * i + 2)).take 2 = [l.getD (4 * i + 2) 0, l.getD (4 * i + 3) 0] := by
    rw [List.take_add_one, List.take_add_one, List.getElem?_eq_getElem (by rw [List.length_drop]; omega), List.getElem?_eq_getElem (by rw [List.length_drop]; omega)]
    rw [List.getD_eq_getElem?_getD, List.getD_eq_getElem?_getD, List.getElem?_eq_getElem (by omega), List.getElem?_eq_getElem (by omega)]
    simp
  rw [h2]
  simp [Num]
theorem four (ho : Str.Ok l) {i : Nat} (hi : 4 * i + 4 ≤ l.length) : (l.drop (4 * i)).take 4 = [l.getD (4 * i) 0, l.getD (4 * i + 1) 0, l.getD (4 * i + 2) 0, l.getD (4 * i + 3) 0] := by
  rw [List.take_add_one, List.take_add_one, List.take_add_one, List.take_add_one, List.getElem?_eq_getElem (by rw [List.length_drop]; omega), List.getElem?_eq_getElem (by rw [List.length_drop]; omega), List.getElem?_eq_getElem (by rw [List.length_drop]; omega), List.getElem?_eq_getElem (by rw [List.length_drop]; omega)]
  rw [List.getD_eq_getElem?_getD, List.getD_eq_getElem?_getD, List.getD_eq_getElem?_getD, List.getD_eq_getElem?_getD, List.getElem?_eq_getElem (by omega), List.getElem?_eq_getElem (by omega), List.getElem?_eq_getElem (by omega), List.getElem?_eq_getElem (by omega)]
  simp
theorem rh_bd (ho : Str.Ok l) {i : Nat} (hi : 4 * i + 4 ≤ l.length) : 0 ≤ rh l i ∧ rh l i < 16777216 := by
  rw [rh_bytes ho hi]
  have a := ho (4 * i + 1); have b := ho (4 * i + 2); have c := ho (4 * i + 3)
  omega
theorem HdOk.hlen (h : HdOk l K) {i : Nat} (hi : i < K) : 4 * i + 4 ≤ l.length := by have := h.len; omega
theorem psd_hds (h : Good l K) (ho : Str.Ok l) : ∀ i, i ≤ K → hds (ppt l) (pof l) (pdat l K) i = l.take (4 * i)
  | 0, _ => by simp [hds]
  | i + 1, hi => by
    simp only [hds]
    rw [psd_hds h ho i (by omega), h.dlen (by omega), show 4 * (i + 1) = 4 * i + 4 from by omega, List.take_add]
    congr 1
    have hl := h.hd.hlen (show i < K by omega)
    rw [four ho hl, hB_eq]
    have hm := h.hd.more i (by omega)
    have hr := rh_bytes ho hl
    have hb := rh_bd ho hl
    have a := ho (4 * i); have b := ho (4 * i + 1); have c := ho (4 * i + 2); have d := ho (4 * i + 3)
    unfold ppt pof psz
    rw [if_pos hm]
    unfold xh at hm ⊢
    generalize rh l i = r at hr hb ⊢
    have e1 : ((r % 1024).toNat : Int) = r % 1024 := by omega
    rw [e1]
    have e2 : r / 1024 * 1024 + r % 1024 = r := by omega
    rw [e2]
    simp only [List.cons.injEq, and_true]
    omega
theorem psd_dts (h : Good l K) : ∀ i, i ≤ K → dts (pdat l K) i = (l.drop (4 * K + 1)).take (psum (psz l) i)
  | 0, _ => by simp [dts, psum]
  | i + 1, hi => by
    simp only [dts, psum]
    rw [psd_dts h i (by omega), List.take_add, List.drop_drop]
    congr 1
    unfold pdat
    rw [if_pos (by omega)]
    rfl
theorem psd_back (h : Good l K) (ho : Str.Ok l) : renc (ppt l) (pof l) (pdat l K) K = l := by
  unfold renc
  rw [psd_hds h ho K (Nat.le_refl _)]
  have h1 : dts (pdat l K) (K + 1) = l.drop (4 * K + 1) := by
    simp only [dts]
    rw [psd_dts h K (Nat.le_refl _)]
    have : pdat l K K = (l.drop (4 * K + 1)).drop (psum (psz l) K) := by
      unfold pdat; rw [if_neg (by omega), List.drop_drop]; rfl
    rw [this, List.take_append_drop]
  have h2 : Big 1 (ppt l K) = [l.getD (4 * K) 0] := by
    rw [Big1]
    have := h.hd.last; have := ho (4 * K)
    unfold ppt xh at *
    congr 1; omega
  have hl := h.hd.len
  rw [h1, h2]
  have h3 : [l.getD (4 * K) 0] ++ l.drop (4 * K + 1) = l.drop (4 * K) := by
    rw [List.drop_eq_getElem_cons hl, List.getD_eq_getElem?_getD, List.getElem?_eq_getElem hl]; rfl
  rw [h3, List.take_append_drop]
theorem psd_vld (h : Good l K) (ho : Str.Ok l) (hn : l.length ≤ 1500) : RVld (ppt l) (pof l) (pdat l K) K where
  pts i hi := by unfold ppt; omega
  ofs i hi := by
    unfold pof
    split
    · rename_i hx
      have hk : i < K := by
        rcases Nat.lt_or_ge i K with e | e
        · exact e
        · have : i = K := by omega
          subst this; have := h.hd.last; omega
      have := rh_bd ho (h.hd.hlen hk)
      omega
    · omega
  of0 := by unfold pof; rw [if_neg (by have := h.hd.last; omega)]
  oks i hi := by unfold pdat; split
                 · exact (ho.drop _).take _
                 · exact ho.drop _
  few := h.hd.lt
  len i hi := by rw [h.dlen hi]; unfold psz; omega
  tot := by
    have := congrArg List.length (psd_back h ho)
    simp only [renc, List.length_append, hds_len, Big_len, dts_len] at this
    omega
end psd
end Go.Proofs.Ytpannhbmelcpfaa
namespace Go.Proofs.Ytpannhbmelcpfaa
open Go.RowKit Go.Shelf
set_option linter.unusedVariables false
/-- n blocks in memory. -/
def BkAt (W : World) (a : Option Addr) (n : Nat) (pt of : Nat → Int) (A : Nat → Option Addr) (C : Nat → Nat) (ds : Nat → List Int) : Prop :=
  ∃ b o, ∀ i, i < n → a = some ⟨b, o, none⟩ ∧ b < W.heap.size ∧ W.cell? ⟨b, o + i * 3, none⟩ = some (.int .i64 (pt i)) ∧ W.cell? ⟨b, o + i * 3 + 1, none⟩ = some (.int .i64 (of i)) ∧ W.cell? ⟨b, o + i * 3 + 2, none⟩ = some (.slice (A i) (ds i).length (C i)) ∧
    BAt W (A i) (ds i).length (ds i) ∧ (ds i).length ≤ C i
theorem BkAt.below {W W' : World} {a : Option Addr} {n : Nat} {pt of : Nat → Int} {A : Nat → Option Addr} {C : Nat → Nat} {ds : Nat → List Int} (h : BkAt W a n pt of A C ds) (hb : Below W.heap.size W W') : BkAt W' a n pt of A C ds := by
  obtain ⟨b, o, hr⟩ := h
  refine ⟨b, o, fun i hi => ?_⟩
  obtain ⟨h1, h2, h3, h4, h5, h6, h7⟩ := hr i hi
  exact ⟨h1, by have := hb.size; omega, (hb.cell (p := ⟨b, o + i * 3, none⟩) h2).trans h3, (hb.cell (p := ⟨b, o + i * 3 + 1, none⟩) h2).trans h4, (hb.cell (p := ⟨b, o + i * 3 + 2, none⟩) h2).trans h5, h6.below hb, h7⟩
theorem BkAt.less {W : World} {a : Option Addr} {n m : Nat} {pt of : Nat → Int} {A : Nat → Option Addr} {C : Nat → Nat} {ds : Nat → List Int} (h : BkAt W a n pt of A C ds) (hm : m ≤ n) : BkAt W a m pt of A C ds := by
  obtain ⟨b, o, hr⟩ := h
  exact ⟨b, o, fun i hi => hr i (by omega)⟩
/-- As the law's arguments come. -/
def BkIn (w : World) (a : Option Addr) (len cap : Nat) (P O : Nat → Int) (A : Nat → Option Addr) (L C : Nat → Nat) (Z : Nat → List Int) : Prop :=
  (a = none ∧ len = 0 ∧ cap = 0) ∨ ∃ x, a = some x ∧ len ≤ cap ∧ cap ≤ maxLen ∧ ∀ i, i < cap → (w.cell? (x.add (i * 3)) = some (.int .i64 (P i)) ∧ (Lit.int .i64 (P i)).wf = true) ∧ (w.cell? (x.add (i * 3 + 1)) = some (.int .i64 (O i)) ∧ (Lit.int .i64 (O i)).wf = true) ∧
    w.cell? (x.add (i * 3 + 2)) = some (.slice (A i) (L i) (C i)) ∧ IntRow .u8 w (A i) (L i) (C i) (Z i)
theorem BkIn.at {w : World} {a : Option Addr} {len cap : Nat} {P O : Nat → Int} {A : Nat → Option Addr} {L C : Nat → Nat} {Z : Nat → List Int} (h : BkIn w a len cap P O A L C Z) : BkAt w a len P O A C (fun i => (Z i).take (L i)) ∧ len ≤ 9223372036854775807 := by
  rcases h with ⟨rfl, rfl, rfl⟩ | ⟨⟨b, o, sp⟩, rfl, hl, hm, hr⟩
  · exact ⟨⟨0, 0, fun i hi => by omega⟩, Nat.zero_le _⟩
  · refine ⟨⟨b, o, fun i hi => ?_⟩, by unfold maxLen at hm; omega⟩
    have hs : sp = none := by have := World.cell?_spot (hr 0 (by omega)).1.1; simpa [Addr.add] using this
    subst hs
    obtain ⟨⟨h1, _⟩, ⟨h2, _⟩, h3, h4⟩ := hr i (by omega)
    rw [show ∀ j, (Addr.add ⟨b, o, none⟩ j) = ⟨b, o + j, none⟩ from fun j => by unfold Addr.add; split <;> simp_all] at h1 h2 h3
    have hlen : ((Z i).take (L i)).length = L i := h4.bat.1.len
    refine ⟨rfl, World.block_lt_of_cell? w _ h1, h1, by rw [Nat.add_assoc]; exact h2, ?_, ?_, ?_⟩
    · rw [hlen, Nat.add_assoc]; exact h3
    · rw [hlen]; exact h4.bat.1
    · rw [hlen]; exact h4.bat.2
def bcells (xs ys : Nat → Int) (A : Nat → Option Addr) (bs : Nat → List Int) (C : Nat → Nat) : Nat → List Value
  | 0 => []
  | i + 1 => bcells xs ys A bs C i ++ [.int .i64 (xs i), .int .i64 (ys i), .slice (A i) (bs i).length (C i)]
theorem bcells_len (xs ys : Nat → Int) (A : Nat → Option Addr) (bs : Nat → List Int) (C : Nat → Nat) : ∀ i, (bcells xs ys A bs C i).length = i * 3
  | 0 => rfl
  | i + 1 => by simp [bcells, bcells_len xs ys A bs C i]; omega
theorem bcells_congr {xs ys : Nat → Int} {A A' : Nat → Option Addr} {bs : Nat → List Int} {C C' : Nat → Nat} : ∀ i, (∀ j, j < i → A' j = A j ∧ C' j = C j) → bcells xs ys A' bs C' i = bcells xs ys A bs C i
  | 0, _ => rfl
  | i + 1, h => by
    obtain ⟨h1, h2⟩ := h i (by omega)
    simp only [bcells]
    rw [bcells_congr i (fun j hj => h j (by omega)), h1, h2]
theorem bcells_at (xs ys : Nat → Int) (A : Nat → Option Addr) (bs : Nat → List Int) (C : Nat → Nat) : ∀ i j, j < i → (bcells xs ys A bs C i)[j * 3]? = some (.int .i64 (xs j)) ∧ (bcells xs ys A bs C i)[j * 3 + 1]? = some (.int .i64 (ys j)) ∧ (bcells xs ys A bs C i)[j * 3 + 2]? = some (.slice (A j) (bs j).length (C j))
  | 0, j, h => by omega
  | i + 1, j, h => by
    have hl := bcells_len xs ys A bs C i
    by_cases e : j = i
    · subst e
      simp only [bcells]
      rw [List.getElem?_append_right (by omega), List.getElem?_append_right (by omega), List.getElem?_append_right (by omega), hl, Nat.sub_self, show j * 3 + 1 - j * 3 = 1 from by omega, show j * 3 + 2 - j * 3 = 2 from by omega]
      exact ⟨rfl, rfl, rfl⟩
    · simp only [bcells]
      rw [List.getElem?_append_left (by omega), List.getElem?_append_left (by omega), List.getElem?_append_left (by omega)]
      exact bcells_at xs ys A bs C i j (by omega)
/-- i gots, all in memory from base on. -/
def BRow (W : World) (base : Nat) (a : Option Addr) (i c : Nat) (xs ys : Nat → Int) (bs : Nat → List Int) : Prop :=
  ∃ A C, W.ownsRow base 54 3 (.slice a i c) i (bcells xs ys A bs C i) ∧ ∀ j, j < i → Own W base (A j) (bs j).length (C j) (bs j) ∧ ∀ y z, a = some y → A j = some z → y.block ≠ z.block
theorem BRow.kept {W W' : World} {base : Nat} {a : Option Addr} {i c : Nat} {xs ys : Nat → Int} {bs : Nat → List Int} {r : Nat} (h : BRow W base a i c xs ys bs) (hg : W.grownBy W' (some r)) (hr : r < base) : BRow W' base a i c xs ys bs := by
  obtain ⟨A, C, ho, he⟩ := h
  refine ⟨A, C, ho.kept hg (.inr ?_), fun j hj => ⟨(he j hj).1.kept hg fun y hy e => ?_, (he j hj).2⟩⟩
  · rcases ho.2 with ⟨e, _⟩ | ⟨g, cap, cur, e, hb, _⟩
    · rw [e]; simp [Value.ownBlock]
    · rw [e]; simp [Value.ownBlock]; omega
  · have := ((he j hj).1.blk y hy).1
    cases e; omega
theorem info_blk : (Try.prog.info? 54).map (fun i => (i.zero, i.size, i.bytes)) = some (some (Value.agg #[.int .i64 0, .int .i64 0, .slice none 0 0]), 3, 40) := by kernel_rfl
theorem append_blk (w : World) (ty : TypeId) (base : Nat) (a : Option Addr) (i c : Nat) (xs ys : Nat → Int) (bs : Nat → List Int) (h : BRow w base a i c xs ys bs) (a' : Option Addr) (c' : Nat) (hO : Own w base a' (bs i).length c' (bs i)) (hsep : ∀ y z, a = some y → a' = some z → y.block ≠ z.block) (hi : i ≤ 1000000) (hbase : base ≤ w.heap.size) :
    ∃ a2 c2 w2, (Builtin.append_ #[39, 39] ty #[.slice a i c, .slice (some ⟨w.heap.size, 0, none⟩) 1 1]).run Try.prog (w.alloc (.cells #[.int .i64 (xs i), .int .i64 (ys i), .slice a' (bs i).length c'] 54)) = .ok (.slice a2 (i + 1) c2) w2 ∧
      BRow w2 base a2 (i + 1) c2 xs ys bs ∧ (w.alloc (.cells #[.int .i64 (xs i), .int .i64 (ys i), .slice a' (bs i).length c'] 54)).grownBy w2 (a.map (·.block)) ∧ (∀ x, a2 = some x → base ≤ x.block) := by
  obtain ⟨i0, hi0, hz0, hz1, hz2⟩ := info_parts info_blk
  obtain ⟨A, C, ho, he⟩ := h
  obtain ⟨w0, hw0⟩ : ∃ w0, w.alloc (.cells #[.int .i64 (xs i), .int .i64 (ys i), .slice a' (bs i).length c'] 54) = w0 := ⟨_, rfl⟩
  have hB : Below w.heap.size w w0 := by rw [← hw0]; exact (Below.refl _ w).alloc (Nat.le_refl _) _
  have hnew : w0.heap[w.heap.size]? = some (.cells #[.int .i64 (xs i), .int .i64 (ys i), .slice a' (bs i).length c'] 54 (0, 0)) := by rw [← hw0]; exact lit_new rfl
  have hz0' : w0.heap.size = w.heap.size + 1 := by rw [← hw0]; simp
  have ho0 : w0.ownsRow base 54 3 (.slice a i c) i (bcells xs ys A bs C i) := by rw [← hw0]; exact ho.alloc _
  have hOj : ∀ j, j < i → Own w0 base (A j) (bs j).length (C j) (bs j) := fun j hj => (he j hj).1.below hB
  have hOn : Own w0 base a' (bs i).length c' (bs i) := hO.below hB
  rw [hw0]
  have hsrc : ∀ j u, ([.int .i64 (xs i), .int .i64 (ys i), .slice a' (bs i).length c'] : List Value)[j]? = some u → w0.cell? ((⟨w.heap.size, 0, none⟩ : Addr).add j) = some u := fun j u hu => by
    rw [show (Addr.add ⟨w.heap.size, 0, none⟩ j) = ⟨w.heap.size, j, none⟩ from by unfold Addr.add; split <;> simp_all, cell_of_row w0 _ j _ _ _ hnew]
    simpa using hu
  obtain ⟨v', w2, hr, ho2, hg, hnil, hat⟩ := run_append_own_at (P := Try.prog) w0 base 39 ty 54 i0 _ 3 40 Try.underlying39 hi0 hz0 hz1 hz2 rfl (by decide) (.slice a i c) i _ ho0 ⟨w.heap.size, 0, none⟩ 1 1 _ rfl hsrc (by intro u hu; simp at hu; rcases hu with rfl | rfl | rfl <;> rfl) (by unfold maxLen; omega) (by omega) (by omega)
  have hv : ∃ g c2, v' = .slice (some ⟨g, 0, none⟩) (i + 1) c2 ∧ base ≤ g := by
    rcases ho2.2 with ⟨rfl, e⟩ | ⟨g, cap, cur, rfl, hb, _⟩
    · omega
    · exact ⟨_, _, rfl, hb⟩
  obtain ⟨g, c2, rfl, hgb⟩ := hv
  have hga : (Value.slice a i c).ownBlock = a.map (·.block) := by cases a <;> rfl
  rw [hga] at hg hat
  have hne : ∀ (z : Addr), z.block < w.heap.size → (∀ y, a = some y → y.block ≠ z.block) → g ≠ z.block := fun z hz hs => by
    rcases hat with e | e
    · cases a with
      | none => simp [Value.ownBlock] at e
      | some y => have := hs y rfl; simp [Value.ownBlock] at e; omega
    · simp [Value.ownBlock] at e; omega
  have hk : ∀ (b : Option Addr) (n' c3 : Nat) (l : List Int), Own w0 base b n' c3 l → (∀ y z, a = some y → b = some z → y.block ≠ z.block) → Own w2 base b n' c3 l := fun b n' c3 l hb hs => hb.kept hg fun y hy e => by
    cases a with
    | none => simp at e
    | some y' => exact hs y' y rfl hy (by simpa using e)
  refine ⟨some ⟨g, 0, none⟩, c2, w2, hr, ⟨fun j => if j = i then a' else A j, fun j => if j = i then c' else C j, ?_, fun j hj => ?_⟩, hg, fun x hx => by cases hx; exact hgb⟩
  · simp only [bcells, if_true]
    rw [bcells_congr (A := A) (C := C) i (fun j hj => by simp [show j ≠ i by omega])]
    exact ho2
  · by_cases e : j = i
    · subst e
      simp only [if_true]
      refine ⟨hk _ _ _ _ hOn hsep, fun y z hy hz => ?_⟩
      cases hy
      exact hne z ((hO.blk z hz).2) fun y' hy' => hsep y' z hy' hz
    · simp only [if_neg e]
      refine ⟨hk _ _ _ _ (hOj j (by omega)) (he j (by omega)).2, fun y z hy hz => ?_⟩
      cases hy
      exact hne z (((he j (by omega)).1.blk z hz).2) fun y' hy' => (he j (by omega)).2 y' z hy' hz
/-- Blocks in rows of their own are blocks in memory. -/
theorem BRow.at {W : World} {base : Nat} {a : Option Addr} {i c : Nat} {xs ys : Nat → Int} {bs : Nat → List Int} (h : BRow W base a i c xs ys bs) : ∃ A C, BkAt W a i xs ys A C bs ∧ i ≤ c ∧ (∀ j, j < i → BIn W base (A j) (bs j).length (bs j)) := by
  obtain ⟨A, C, ho, he⟩ := h
  refine ⟨A, C, ?_, ?_, fun j hj => (he j hj).1.bin⟩
  · rcases ho.2 with ⟨hv, e0⟩ | ⟨g, cap, cur, hv, hb, hg, h1, h2, h3, h4⟩
    · exact ⟨0, 0, fun j hj => by omega⟩
    · simp only [Value.slice.injEq, true_and] at hv
      obtain ⟨rfl, rfl⟩ := hv
      have hc : ∀ j u, (bcells xs ys A bs C i)[j]? = some u → W.cell? ⟨g, j, none⟩ = some u := fun j u hu => by
        have := ho.cells (g := g) rfl j u hu
        rwa [show (Addr.add ⟨g, 0, none⟩ j) = ⟨g, j, none⟩ from by unfold Addr.add; split <;> simp_all] at this
      refine ⟨g, 0, fun j hj => ?_⟩
      obtain ⟨q1, q2, q3⟩ := bcells_at xs ys A bs C i j hj
      refine ⟨rfl, (Array.getElem?_eq_some_iff.1 hg).1, by rw [Nat.zero_add]; exact hc _ _ q1, by rw [Nat.zero_add]; exact hc _ _ q2, by rw [Nat.zero_add]; exact hc _ _ q3, (he j hj).1.bat, ?_⟩
      rcases (he j hj).1.row.2 with ⟨hv', h0⟩ | ⟨g', cap', cur', hv', _, _, hnc, _⟩
      · omega
      · simp only [Value.slice.injEq, true_and] at hv'; omega
  · rcases ho.2 with ⟨hv, h0⟩ | ⟨g', cap', cur', hv', _, _, hnc, _⟩
    · omega
    · simp only [Value.slice.injEq, true_and] at hv'; omega
end Go.Proofs.Ytpannhbmelcpfaa

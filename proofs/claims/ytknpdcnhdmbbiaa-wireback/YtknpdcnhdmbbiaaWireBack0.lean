
/-
  What WireBack's walk wants: what was written is read back, in numbers; rows of pairs of cells.
-/
import Derived.Test.YtknpdcnhdmbbiaaWireParts0
namespace Go.Proofs.Ytknpdcnhdmbbiaa
open Go.RowKit Go.Shelf
set_option linter.unusedVariables false
def Kd (k : Int) : Prop := k = 1 ∨ k = 2 ∨ k = 4 ∨ k = 8
theorem stepK_kd {k m : Int} {n : Nat} (h : Kd k) : stepK k m n = k.toNat := by unfold stepK; exact if_pos h
theorem stepNo_kd {k m : Int} {n : Nat} (h : Kd k) : stepNo k m n = if (n : Int) < k then 20 else 0 := by unfold stepNo; exact if_pos h
theorem wr1_kd {k x : Int} {b : List Int} (h : Kd k) : wr1 k x b = Big k.toNat x := by
  unfold wr1
  rcases h with rfl | rfl | rfl | rfl <;> simp
theorem wr1_kd_len {k x : Int} {b : List Int} (h : Kd k) : (wr1 k x b).length = k.toNat := by rw [wr1_kd h, Big_len]
theorem pos_kd (ks ns xs : Nat → Int) (bs : Nat → List Int) (n : Nat) (h : ∀ i, Kd (ks i)) : ∀ j, pos ks ns n j = (Wr ks xs bs j).length
  | 0 => rfl
  | j + 1 => by
    simp only [pos, Wr]
    rw [List.length_append, wr1_kd_len (h j), stepK_kd (h j), pos_kd ks ns xs bs n h j]
theorem Wr_split (ks xs : Nat → Int) (bs : Nat → List Int) : ∀ m j, j < m → ∃ r, Wr ks xs bs m = Wr ks xs bs j ++ (wr1 (ks j) (xs j) (bs j) ++ r)
  | 0, j, h => by omega
  | m + 1, j, h => by
    by_cases e : j = m
    · subst e; exact ⟨[], by simp [Wr]⟩
    · obtain ⟨r, hr⟩ := Wr_split ks xs bs m j (by omega)
      exact ⟨r ++ wr1 (ks m) (xs m) (bs m), by simp only [Wr]; rw [hr]; simp⟩
theorem Num_from (l : List Int) : ∀ a : Int, l.foldl (fun a b => a * 256 + b) a = a * 256 ^ l.length + Num l := by
  induction l with
  | nil => intro a; simp [Num]
  | cons b l ih =>
    intro a
    unfold Num
    rw [List.foldl_cons, List.foldl_cons, ih, ih, List.length_cons, Int.pow_succ]
    simp only [Int.zero_mul, Int.zero_add, Int.add_mul]
    rw [show a * 256 * 256 ^ l.length = a * (256 ^ l.length * 256) by rw [Int.mul_assoc, Int.mul_comm 256]]
    omega
theorem Num_Big (x : Int) (hx : 0 ≤ x) : ∀ k, Num (Big k x) = x % 256 ^ k
  | 0 => by simp [Big, Num, Int.emod_one]
  | k + 1 => by
    rw [Big_succ]
    show ([x / 256 ^ k % 256] ++ Big k x).foldl _ 0 = _
    rw [List.singleton_append, List.foldl_cons, Num_from, Big_len, Num_Big x hx k]
    obtain ⟨n, rfl⟩ := Int.eq_ofNat_of_zero_le hx
    have h := Nat.mod_mul (x := n) (a := 256 ^ k) (b := 256)
    rw [← Nat.pow_succ] at h
    have h2 : ((n % 256 ^ (k + 1) : Nat) : Int) = ((n % 256 ^ k + 256 ^ k * (n / 256 ^ k % 256) : Nat) : Int) := by rw [h]
    have e1 : ((n % 256 ^ (k + 1) : Nat) : Int) = (n : Int) % 256 ^ (k + 1) := by rw [Int.natCast_emod, Int.natCast_pow]; rfl
    have e2 : ((n % 256 ^ k : Nat) : Int) = (n : Int) % 256 ^ k := by rw [Int.natCast_emod, Int.natCast_pow]; rfl
    have e3 : ((256 ^ k * (n / 256 ^ k % 256) : Nat) : Int) = 256 ^ k * ((n : Int) / 256 ^ k % 256) := by rw [Int.natCast_mul, Int.natCast_emod, Int.natCast_ediv, Int.natCast_pow]; rfl
    rw [e1, Int.natCast_add, e2, e3] at h2
    show (0 * 256 + (n : Int) / 256 ^ k % 256) * 256 ^ k + (n : Int) % 256 ^ k = (n : Int) % 256 ^ (k + 1)
    rw [h2, Int.zero_mul, Int.zero_add, Int.mul_comm (256 ^ k), Int.add_comm]
theorem wr_no (ks ns xs : Nat → Int) (bs : Nat → List Int) (n n0 : Nat) (h : ∀ i, Kd (ks i)) (hn : (Wr ks xs bs n0).length ≤ n) (j : Nat) (hj : j < n0) : noAt ks ns n j = 0 := by
  obtain ⟨r, hr⟩ := Wr_split ks xs bs n0 j hj
  rw [hr, List.length_append, List.length_append, wr1_kd_len (h j)] at hn
  unfold noAt
  rw [stepNo_kd (h j), pos_kd ks ns xs bs n h j]
  have : 0 < ks j := by rcases h j with e | e | e | e <;> omega
  rw [if_neg (by omega)]
theorem wr_gotX (ks ns xs : Nat → Int) (bs : Nat → List Int) (n0 : Nat) (h : ∀ i, Kd (ks i)) (hx : ∀ i, i < n0 → 0 ≤ xs i ∧ xs i < 256 ^ (ks i).toNat) (j : Nat) (hj : j < n0) : gotX ks ns (Wr ks xs bs n0) j = xs j := by
  obtain ⟨r, hr⟩ := Wr_split ks xs bs n0 j hj
  unfold gotX
  rw [pos_kd ks ns xs bs _ h j]
  unfold stepX
  rw [if_pos (show ks j = 1 ∨ ks j = 2 ∨ ks j = 4 ∨ ks j = 8 from h j), hr, List.drop_left, wr1_kd (h j)]
  have e : ∀ r, (Big (ks j).toNat (xs j) ++ r).take (ks j).toNat = Big (ks j).toNat (xs j) := fun r => List.take_left' (Big_len _ _)
  rw [e, Num_Big _ (hx j hj).1]
  exact Int.emod_eq_of_lt (hx j hj).1 (hx j hj).2
theorem wr_gotB (ks ns xs : Nat → Int) (bs : Nat → List Int) (l : List Int) (h : ∀ i, Kd (ks i)) (j : Nat) : gotB ks ns l j = [] := by
  unfold gotB stepB
  have : ¬ (ks j = 0 ∨ ks j = -1) := by rcases h j with e | e | e | e <;> omega
  rw [if_neg this]
theorem wr_short (ks ns xs : Nat → Int) (bs : Nat → List Int) (t n0 F : Nat) (h : ∀ i, Kd (ks i)) (ht : t < (Wr ks xs bs n0).length) (hF : F ≤ n0) (hok : ∀ j, j < F → noAt ks ns t j = 0) (hbad : F < n0 → noAt ks ns t F ≠ 0) : F < n0 ∧ noAt ks ns t F = 20 := by
  have h1 : F < n0 := by
    by_cases e : F = n0
    · subst e
      have := pos_le ks ns t F hok
      rw [pos_kd ks ns xs bs t h F] at this
      omega
    · omega
  refine ⟨h1, ?_⟩
  have := hbad h1
  unfold noAt at this ⊢
  rw [stepNo_kd (h F)] at this ⊢
  split
  · rfl
  · rename_i h2; rw [if_neg h2] at this; exact absurd rfl this
/-- Rows of elements of two cells each. -/
def pcells (f g : Nat → Value) : Nat → List Value
  | 0 => []
  | i + 1 => pcells f g i ++ [f i, g i]
theorem pcells_len (f g : Nat → Value) : ∀ i, (pcells f g i).length = i * 2
  | 0 => rfl
  | i + 1 => by simp [pcells, pcells_len f g i]; omega
theorem pcells_at (f g : Nat → Value) : ∀ i j, j < i → (pcells f g i)[j * 2]? = some (f j) ∧ (pcells f g i)[j * 2 + 1]? = some (g j)
  | 0, j, h => by omega
  | i + 1, j, h => by
    have hl := pcells_len f g i
    by_cases e : j = i
    · subst e
      simp only [pcells]
      rw [List.getElem?_append_right (by omega), List.getElem?_append_right (by omega), hl, Nat.sub_self, show j * 2 + 1 - j * 2 = 1 from by omega]
      exact ⟨rfl, rfl⟩
    · simp only [pcells]
      rw [List.getElem?_append_left (by omega), List.getElem?_append_left (by omega)]
      exact pcells_at f g i j (by omega)
theorem append_pair (w : World) (ty TS T : TypeId) (i0 : TypeInfo) (z : Value) (by' : Nat) (hU : Try.prog.underlying TS = some (.slice T)) (hi0 : Try.prog.info? T = some i0) (hz0 : i0.zero = some z) (hz1 : i0.size = 2) (hz2 : i0.bytes = by') (hzc : z.cells.size = 2) (hby : by' ≤ 32) (base : Nat) (a : Option Addr) (i c : Nat) (f g : Nat → Value)
    (h : w.ownsRow base T 2 (.slice a i c) i (pcells f g i)) (h1 : (f i).oneCell' = true) (h2 : (g i).oneCell' = true) (hi : i ≤ 1000000) (hbase : base ≤ w.heap.size) :
    ∃ a2 c2 w2, (Builtin.append_ #[TS, TS] ty #[.slice a i c, .slice (some ⟨w.heap.size, 0, none⟩) 1 1]).run Try.prog (w.alloc (.cells #[f i, g i] T)) = .ok (.slice a2 (i + 1) c2) w2 ∧
      w2.ownsRow base T 2 (.slice a2 (i + 1) c2) (i + 1) (pcells f g (i + 1)) ∧ (w.alloc (.cells #[f i, g i] T)).grownBy w2 (a.map (·.block)) ∧ (a2.map (·.block) = a.map (·.block) ∨ a2.map (·.block) = some (w.heap.size + 1)) := by
  obtain ⟨w0, hw0⟩ : ∃ w0, w.alloc (.cells #[f i, g i] T) = w0 := ⟨_, rfl⟩
  have hnew : w0.heap[w.heap.size]? = some (.cells #[f i, g i] T (0, 0)) := by rw [← hw0]; exact lit_new rfl
  have hz0' : w0.heap.size = w.heap.size + 1 := by rw [← hw0]; simp
  have ho0 : w0.ownsRow base T 2 (.slice a i c) i (pcells f g i) := by rw [← hw0]; exact h.alloc _
  rw [hw0]
  have hsrc : ∀ j u, ([f i, g i] : List Value)[j]? = some u → w0.cell? ((⟨w.heap.size, 0, none⟩ : Addr).add j) = some u := fun j u hu => by
    rw [show (Addr.add ⟨w.heap.size, 0, none⟩ j) = ⟨w.heap.size, j, none⟩ from by unfold Addr.add; split <;> simp_all, cell_of_row w0 _ j _ _ _ hnew]
    simpa using hu
  obtain ⟨v', w2, hr, ho2, hg, hnil, hat⟩ := run_append_own_at (P := Try.prog) w0 base TS ty T i0 z 2 by' hU hi0 hz0 hz1 hz2 hzc (by decide) (.slice a i c) i _ ho0 ⟨w.heap.size, 0, none⟩ 1 1 _ rfl hsrc (by intro u hu; simp at hu; rcases hu with rfl | rfl <;> assumption) (by unfold maxLen; omega) (by have : (i + 1) * by' ≤ (i + 1) * 32 := Nat.mul_le_mul_left _ hby; omega) (by omega)
  have hv : ∃ b c2, v' = .slice (some ⟨b, 0, none⟩) (i + 1) c2 := by
    rcases ho2.2 with ⟨rfl, e⟩ | ⟨b, cap, cur, rfl, hb, _⟩
    · omega
    · exact ⟨_, _, rfl⟩
  obtain ⟨b, c2, rfl⟩ := hv
  have hga : (Value.slice a i c).ownBlock = a.map (·.block) := by cases a <;> rfl
  rw [hga] at hg hat
  refine ⟨some ⟨b, 0, none⟩, c2, w2, hr, ho2, hg, ?_⟩
  rw [hz0'] at hat
  simpa [Value.ownBlock] using hat
theorem info_step : (Try.prog.info? 40).map (fun i => (i.zero, i.size, i.bytes)) = some (some (Value.agg #[.int .i64 0, .int .i64 0]), 2, 16) := by kernel_rfl
/-- Steps and gots of the law's own making: i of each. -/
structure BkSt (w : World) (ks xs : Nat → Int) (i : Nat) (a3 : Option Addr) (c3 : Nat) (a4 : Option Addr) (c4 : Nat) (W : World) : Prop where
  st : W.ownsRow w.heap.size 40 2 (.slice a3 i c3) i (pcells (fun j => .int .i64 (ks j)) (fun _ => .int .i64 0) i)
  gt : W.ownsRow w.heap.size 42 2 (.slice a4 i c4) i (pcells (fun j => .int .u64 (xs j)) (fun _ => .slice none 0 0) i)
  sep : ∀ y z, a3 = some y → a4 = some z → y.block ≠ z.block
  low : Below w.heap.size w W
theorem BkSt.start (w : World) (ks xs : Nat → Int) : BkSt w ks xs 0 (some ⟨w.heap.size, 0, none⟩) 0 (some ⟨w.heap.size + 1, 0, none⟩) 0 ((w.alloc (.cells #[] 40)).alloc (.cells #[] 42)) := by
  have h1 : (w.alloc (.cells #[] 40)).heap.size = w.heap.size + 1 := by simp
  refine ⟨(World.ownsRow_made w _ 0 (Nat.le_refl _) (by decide) rfl).alloc _, ?_, fun y z hy hz => by cases hy; cases hz; simp, ((Below.refl _ w).alloc (Nat.le_refl _) _).alloc (by omega) _⟩
  have := World.ownsRow_made (base := w.heap.size) (e := 42) (size := 2) (w.alloc (.cells #[] 40)) #[] 0 (by omega) (by decide) rfl
  rw [h1] at this
  exact this
theorem own_block {W : World} {base T s : Nat} {a : Option Addr} {i c : Nat} {xs : List Value} (h : W.ownsRow base T s (.slice a i c) i xs) : ∀ y, a = some y → base ≤ y.block ∧ y.block < W.heap.size := fun y hy => by
  subst hy
  rcases h.2 with ⟨e, _⟩ | ⟨g, cap, cur, e, hb, hg, _⟩
  · simp at e
  · simp at e
    obtain ⟨rfl, _⟩ := e
    exact ⟨hb, (Array.getElem?_eq_some_iff.1 hg).1⟩
/-- One more step and one more got. -/
theorem BkSt.next {w : World} {ks xs : Nat → Int} {i : Nat} {a3 : Option Addr} {c3 : Nat} {a4 : Option Addr} {c4 : Nat} {W : World} (h : BkSt w ks xs i a3 c3 a4 c4 W) (ty3 ty4 : TypeId) (hi : i ≤ 1000) :
    ∃ a5 c5 W1, (Builtin.append_ #[23, 23] ty3 #[.slice a3 i c3, .slice (some ⟨W.heap.size, 0, none⟩) 1 1]).run Try.prog (W.alloc (.cells #[.int .i64 (ks i), .int .i64 0] 40)) = .ok (.slice a5 (i + 1) c5) W1 ∧
    ∃ a6 c6 W2, (Builtin.append_ #[29, 29] ty4 #[.slice a4 i c4, .slice (some ⟨W1.heap.size, 0, none⟩) 1 1]).run Try.prog (W1.alloc (.cells #[.int .u64 (xs i), .slice none 0 0] 42)) = .ok (.slice a6 (i + 1) c6) W2 ∧
      BkSt w ks xs (i + 1) a5 c5 a6 c6 W2 := by
  obtain ⟨i1, p1, p2, p3, p4⟩ := info_parts info_step
  obtain ⟨i2, q1, q2, q3, q4⟩ := info_parts info_got
  have hz := h.low.size
  obtain ⟨a5, c5, W1, hr1, ho1, hg1, hat1⟩ := append_pair W ty3 23 40 i1 _ 16 Try.underlying23 p1 p2 p3 p4 rfl (by decide) w.heap.size a3 i c3 _ _ h.st rfl rfl (by omega) hz
  have hz1 := hg1.size
  simp at hz1
  have hgt1 : W1.ownsRow w.heap.size 42 2 (.slice a4 i c4) i (pcells (fun j => .int .u64 (xs j)) (fun _ => .slice none 0 0) i) := (h.gt.alloc _).kept hg1 (by
    cases a4 with
    | none => exact .inl rfl
    | some z => exact .inr (by
        cases a3 with
        | none => simp [Value.ownBlock]
        | some y => have := h.sep y z rfl rfl; simp [Value.ownBlock]; omega))
  have hB1 : Below w.heap.size w W1 := ((h.low.alloc hz _).grown hg1 (by simp; omega) (fun k e => by
    cases a3 with
    | none => cases e
    | some y => have := (own_block h.st y rfl).1; simp at e; omega))
  obtain ⟨a6, c6, W2, hr2, ho2, hg2, hat2⟩ := append_pair W1 ty4 29 42 i2 _ 32 Try.underlying29 q1 q2 q3 q4 rfl (by decide) w.heap.size a4 i c4 _ _ hgt1 rfl rfl (by omega) hB1.size
  have hsep1 : ∀ y z, a5 = some y → a4 = some z → y.block ≠ z.block := fun y z hy hz' e => by
    subst hy; subst hz'
    have hb := (own_block h.gt z rfl).2
    rcases hat1 with e1 | e1
    · cases a3 with
      | none => simp at e1
      | some x => have := h.sep x z rfl rfl; simp at e1; omega
    · simp at e1; omega
  have hst2 : W2.ownsRow w.heap.size 40 2 (.slice a5 (i + 1) c5) (i + 1) (pcells (fun j => .int .i64 (ks j)) (fun _ => .int .i64 0) (i + 1)) := (ho1.alloc _).kept hg2 (by
    cases a5 with
    | none => exact .inl rfl
    | some y => exact .inr (by
        cases a4 with
        | none => simp [Value.ownBlock]
        | some z => have := hsep1 y z rfl rfl; simp [Value.ownBlock]; omega))
  refine ⟨a5, c5, W1, hr1, a6, c6, W2, hr2, hst2, ho2, fun y z hy hz' e => ?_, ((hB1.alloc hB1.size _).grown hg2 (by simp; have := hB1.size; omega) (fun k e => by
    cases a4 with
    | none => cases e
    | some y => have := (own_block h.gt y rfl).1; simp at e; omega))⟩
  subst hy; subst hz'
  have hb := (own_block ho1 y rfl).2
  rcases hat2 with e2 | e2
  · cases a4 with
    | none => simp at e2
    | some x => have := hsep1 y x rfl rfl; simp at e2; omega
  · simp at e2; omega
theorem BkSt.stat {w : World} {ks xs : Nat → Int} {i : Nat} {a3 : Option Addr} {c3 : Nat} {a4 : Option Addr} {c4 : Nat} {W : World} (h : BkSt w ks xs i a3 c3 a4 c4 W) : StAt W a3 i ks (fun _ => 0) := by
  rcases h.st.2 with ⟨e, e2⟩ | ⟨g, cap, cur, e, hb, hg, _⟩
  · exact ⟨0, 0, fun j hj => by omega⟩
  · simp at e
    obtain ⟨rfl, rfl⟩ := e
    refine ⟨g, 0, fun j hj => ?_⟩
    have hc := h.st.cells (g := g) rfl
    obtain ⟨c0, c1⟩ := pcells_at (fun j => Value.int .i64 (ks j)) (fun _ => .int .i64 0) i j hj
    have d0 := hc _ _ c0
    have d1 := hc _ _ c1
    rw [add_none] at d0 d1
    exact ⟨rfl, (Array.getElem?_eq_some_iff.1 hg).1, d0, by rw [Nat.add_assoc]; exact d1⟩
theorem BkSt.gtat {w : World} {ks xs : Nat → Int} {i : Nat} {a3 : Option Addr} {c3 : Nat} {a4 : Option Addr} {c4 : Nat} {W : World} (h : BkSt w ks xs i a3 c3 a4 c4 W) (hx : ∀ j, j < i → 0 ≤ xs j ∧ xs j < 18446744073709551616) : GtAt W a4 i xs (fun _ => none) (fun _ => 0) (fun _ => 0) (fun _ => []) := by
  rcases h.gt.2 with ⟨e, e2⟩ | ⟨g, cap, cur, e, hb, hg, _⟩
  · exact ⟨0, 0, fun j hj => by omega⟩
  · simp at e
    obtain ⟨rfl, rfl⟩ := e
    refine ⟨g, 0, fun j hj => ?_⟩
    have hc := h.gt.cells (g := g) rfl
    obtain ⟨c0, c1⟩ := pcells_at (fun j => Value.int .u64 (xs j)) (fun _ => .slice none 0 0) i j hj
    have d0 := hc _ _ c0
    have d1 := hc _ _ c1
    rw [add_none] at d0 d1
    exact ⟨rfl, (Array.getElem?_eq_some_iff.1 hg).1, d0, by rw [Nat.add_assoc]; exact d1, (hx j hj).1, (hx j hj).2, BAt.none W⟩
theorem GtAt.congr {W : World} {a : Option Addr} {n : Nat} {xs ys : Nat → Int} {A : Nat → Option Addr} {L C : Nat → Nat} {bs cs : Nat → List Int} (h : GtAt W a n xs A L C bs) (hx : ∀ j, j < n → xs j = ys j) (hb : ∀ j, j < n → bs j = cs j) : GtAt W a n ys A L C cs := by
  obtain ⟨b, o, hr⟩ := h
  refine ⟨b, o, fun i hi => ?_⟩
  rw [← hx i hi, ← hb i hi]
  exact hr i hi
/-- Numbers of eight bytes in memory. -/
def WdAt (W : World) (a : Option Addr) (n : Nat) (z : List Int) : Prop :=
  ∃ b o, ∀ i, i < n → a = some ⟨b, o, none⟩ ∧ b < W.heap.size ∧ W.cell? ⟨b, o + i, none⟩ = some (.int .u64 (z.getD i 0)) ∧ 0 ≤ z.getD i 0 ∧ z.getD i 0 < 18446744073709551616
theorem WdAt.below {W W' : World} {a : Option Addr} {n : Nat} {z : List Int} (h : WdAt W a n z) (hb : Below W.heap.size W W') : WdAt W' a n z := by
  obtain ⟨b, o, hr⟩ := h
  refine ⟨b, o, fun i hi => ?_⟩
  obtain ⟨h1, h2, h3, h4⟩ := hr i hi
  exact ⟨h1, by have := hb.size; omega, (hb.cell (p := ⟨b, o + i, none⟩) h2).trans h3, h4⟩
theorem WdAt.lo {W W' : World} {a : Option Addr} {n : Nat} {z : List Int} (h : WdAt W a n z) (hb : Below W.heap.size W W') : WdAt W' a n z := h.below hb
theorem IntRow.wd {w : World} {a : Option Addr} {len cap : Nat} {zs : List Int} (h : IntRow .u64 w a len cap zs) : WdAt w a len zs ∧ len ≤ cap := by
  rcases h with ⟨rfl, rfl, rfl, rfl⟩ | ⟨⟨b, off, sp⟩, rfl, hl, hm, hz, hc, hw⟩
  · exact ⟨⟨0, 0, fun i hi => by omega⟩, Nat.le_refl _⟩
  · refine ⟨⟨b, off, fun i hi => ?_⟩, hl⟩
    have hs : sp = none := by
      have := World.cell?_spot (hc 0 (by omega)); simpa [Addr.add] using this
    subst hs
    have h1 := hc i (by omega)
    rw [show (Addr.add ⟨b, off, none⟩ i) = ⟨b, off + i, none⟩ from by unfold Addr.add; split <;> simp_all] at h1
    refine ⟨rfl, ?_, h1, ?_⟩
    · simp only [World.cell?] at h1
      by_cases hb : b < w.heap.size
      · exact hb
      · simp [Array.getElem?_eq_none (Nat.le_of_not_lt hb)] at h1
    · have : zs.getD i 0 ∈ zs := by
        rw [List.getD_eq_getElem?_getD, List.getElem?_eq_getElem (by omega)]; simp
      have := hw _ this
      generalize zs.getD i 0 = z at this ⊢
      simp [Lit.wf, IntKind.min, IntKind.max, IntKind.bits, IntKind.signed] at this; omega
end Go.Proofs.Ytknpdcnhdmbbiaa

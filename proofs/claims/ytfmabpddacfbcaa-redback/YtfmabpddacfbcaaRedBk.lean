
/-
  RED blocks in memory: as they come in, and in rows of their own; one more appended.
-/
import Derived.Test.YtfmabpddacfbcaaRedPlain
namespace Go.Proofs.Ytfmabpddacfbcaa
open Go.RowKit Go.Shelf
set_option linter.unusedVariables false
/-- n blocks in memory. -/
def BkAt (W : World) (a : Option Addr) (n : Nat) (pt of : Nat → Int) (A : Nat → Option Addr) (C : Nat → Nat) (ds : Nat → List Int) : Prop :=
  ∃ b o, ∀ i, i < n → a = some ⟨b, o, none⟩ ∧ b < W.heap.size ∧ W.cell? ⟨b, o + i * 3, none⟩ = some (.int .i64 (pt i)) ∧ W.cell? ⟨b, o + i * 3 + 1, none⟩ = some (.int .i64 (of i)) ∧ W.cell? ⟨b, o + i * 3 + 2, none⟩ = some (.slice (A i) (ds i).length (C i)) ∧
    BAt W (A i) (ds i).length (ds i) ∧ (ds i).length ≤ C i
theorem BkAt.below {W W' : World} {a : Option Addr} {n : Nat} {pt of : Nat → Int} {A : Nat → Option Addr} {C : Nat → Nat} {ds : Nat → List Int} (h : BkAt W a n pt of A C ds) (hb : Below W.heap.size W W') : BkAt W' a n pt of A C ds := by
  obtain ⟨b, o, hr⟩ := h
  refine ⟨b, o, fun i hi => ?_⟩
  obtain ⟨h1, h2, h3, h4, h5, h6, h7⟩ := hr i hi
  exact ⟨h1, by have := hb.size; omega, (hb.cell (p := ⟨b, o + i * 3, none⟩) h2).trans h3, (hb.cell (p := ⟨b, o + i * 3 + 1, none⟩) h2).trans h4, (hb.cell (p := ⟨b, o + i * 3 + 2, none⟩) h2).trans h5, h6.below hb, h7⟩
theorem BkAt.less {W : World} {a : Option Addr} {n m : Nat} {pt of : Nat → Int} {A : Nat → Option Addr} {C : Nat → Nat} {ds : Nat → List Int} (h : BkAt W a n pt of A C ds) (hm : m ≤ n) : BkAt W a m pt of A C ds := by
  obtain ⟨b, o, hr⟩ := h
  exact ⟨b, o, fun i hi => hr i (by omega)⟩
/-- As the law's arguments come. -/
def BkIn (w : World) (a : Option Addr) (len cap : Nat) (P O : Nat → Int) (A : Nat → Option Addr) (L C : Nat → Nat) (Z : Nat → List Int) : Prop :=
  (a = none ∧ len = 0 ∧ cap = 0) ∨ ∃ x, a = some x ∧ len ≤ cap ∧ cap ≤ maxLen ∧ ∀ i, i < cap → (w.cell? (x.add (i * 3)) = some (.int .i64 (P i)) ∧ (Lit.int .i64 (P i)).wf = true) ∧ (w.cell? (x.add (i * 3 + 1)) = some (.int .i64 (O i)) ∧ (Lit.int .i64 (O i)).wf = true) ∧
    w.cell? (x.add (i * 3 + 2)) = some (.slice (A i) (L i) (C i)) ∧ IntRow .u8 w (A i) (L i) (C i) (Z i)
theorem BkIn.at {w : World} {a : Option Addr} {len cap : Nat} {P O : Nat → Int} {A : Nat → Option Addr} {L C : Nat → Nat} {Z : Nat → List Int} (h : BkIn w a len cap P O A L C Z) : BkAt w a len P O A C (fun i => (Z i).take (L i)) ∧ len ≤ 9223372036854775807 := by
  rcases h with ⟨rfl, rfl, rfl⟩ | ⟨⟨b, o, sp⟩, rfl, hl, hm, hr⟩
  · exact ⟨⟨0, 0, fun i hi => by omega⟩, Nat.zero_le _⟩
  · refine ⟨⟨b, o, fun i hi => ?_⟩, by unfold maxLen at hm; omega⟩
    have hs : sp = none := by have := World.cell?_spot (hr 0 (by omega)).1.1; simpa [Addr.add] using this
    subst hs
    obtain ⟨⟨h1, _⟩, ⟨h2, _⟩, h3, h4⟩ := hr i (by omega)
    rw [show ∀ j, (Addr.add ⟨b, o, none⟩ j) = ⟨b, o + j, none⟩ from fun j => by unfold Addr.add; split <;> simp_all] at h1 h2 h3
    have hlen : ((Z i).take (L i)).length = L i := h4.bat.1.len
    refine ⟨rfl, World.block_lt_of_cell? w _ h1, h1, by rw [Nat.add_assoc]; exact h2, ?_, ?_, ?_⟩
    · rw [hlen, Nat.add_assoc]; exact h3
    · rw [hlen]; exact h4.bat.1
    · rw [hlen]; exact h4.bat.2
def bcells (xs ys : Nat → Int) (A : Nat → Option Addr) (bs : Nat → List Int) (C : Nat → Nat) : Nat → List Value
  | 0 => []
  | i + 1 => bcells xs ys A bs C i ++ [.int .i64 (xs i), .int .i64 (ys i), .slice (A i) (bs i).length (C i)]
theorem bcells_len (xs ys : Nat → Int) (A : Nat → Option Addr) (bs : Nat → List Int) (C : Nat → Nat) : ∀ i, (bcells xs ys A bs C i).length = i * 3
  | 0 => rfl
  | i + 1 => by simp [bcells, bcells_len xs ys A bs C i]; omega
theorem bcells_congr {xs ys : Nat → Int} {A A' : Nat → Option Addr} {bs : Nat → List Int} {C C' : Nat → Nat} : ∀ i, (∀ j, j < i → A' j = A j ∧ C' j = C j) → bcells xs ys A' bs C' i = bcells xs ys A bs C i
  | 0, _ => rfl
  | i + 1, h => by
    obtain ⟨h1, h2⟩ := h i (by omega)
    simp only [bcells]
    rw [bcells_congr i (fun j hj => h j (by omega)), h1, h2]
theorem bcells_at (xs ys : Nat → Int) (A : Nat → Option Addr) (bs : Nat → List Int) (C : Nat → Nat) : ∀ i j, j < i → (bcells xs ys A bs C i)[j * 3]? = some (.int .i64 (xs j)) ∧ (bcells xs ys A bs C i)[j * 3 + 1]? = some (.int .i64 (ys j)) ∧ (bcells xs ys A bs C i)[j * 3 + 2]? = some (.slice (A j) (bs j).length (C j))
  | 0, j, h => by omega
  | i + 1, j, h => by
    have hl := bcells_len xs ys A bs C i
    by_cases e : j = i
    · subst e
      simp only [bcells]
      rw [List.getElem?_append_right (by omega), List.getElem?_append_right (by omega), List.getElem?_append_right (by omega), hl, Nat.sub_self, show j * 3 + 1 - j * 3 = 1 from by omega, show j * 3 + 2 - j * 3 = 2 from by omega]
      exact ⟨rfl, rfl, rfl⟩
    · simp only [bcells]
      rw [List.getElem?_append_left (by omega), List.getElem?_append_left (by omega), List.getElem?_append_left (by omega)]
      exact bcells_at xs ys A bs C i j (by omega)
/-- i gots, all in memory from base on. -/
def BRow (W : World) (base : Nat) (a : Option Addr) (i c : Nat) (xs ys : Nat → Int) (bs : Nat → List Int) : Prop :=
  ∃ A C, W.ownsRow base 50 3 (.slice a i c) i (bcells xs ys A bs C i) ∧ ∀ j, j < i → Own W base (A j) (bs j).length (C j) (bs j) ∧ ∀ y z, a = some y → A j = some z → y.block ≠ z.block
theorem BRow.kept {W W' : World} {base : Nat} {a : Option Addr} {i c : Nat} {xs ys : Nat → Int} {bs : Nat → List Int} {r : Nat} (h : BRow W base a i c xs ys bs) (hg : W.grownBy W' (some r)) (hr : r < base) : BRow W' base a i c xs ys bs := by
  obtain ⟨A, C, ho, he⟩ := h
  refine ⟨A, C, ho.kept hg (.inr ?_), fun j hj => ⟨(he j hj).1.kept hg fun y hy e => ?_, (he j hj).2⟩⟩
  · rcases ho.2 with ⟨e, _⟩ | ⟨g, cap, cur, e, hb, _⟩
    · rw [e]; simp [Value.ownBlock]
    · rw [e]; simp [Value.ownBlock]; omega
  · have := ((he j hj).1.blk y hy).1
    cases e; omega
theorem info_blk : (Try.prog.info? 50).map (fun i => (i.zero, i.size, i.bytes)) = some (some (Value.agg #[.int .i64 0, .int .i64 0, .slice none 0 0]), 3, 40) := by kernel_rfl
theorem append_blk (w : World) (ty : TypeId) (base : Nat) (a : Option Addr) (i c : Nat) (xs ys : Nat → Int) (bs : Nat → List Int) (h : BRow w base a i c xs ys bs) (a' : Option Addr) (c' : Nat) (hO : Own w base a' (bs i).length c' (bs i)) (hsep : ∀ y z, a = some y → a' = some z → y.block ≠ z.block) (hi : i ≤ 1000000) (hbase : base ≤ w.heap.size) :
    ∃ a2 c2 w2, (Builtin.append_ #[22, 22] ty #[.slice a i c, .slice (some ⟨w.heap.size, 0, none⟩) 1 1]).run Try.prog (w.alloc (.cells #[.int .i64 (xs i), .int .i64 (ys i), .slice a' (bs i).length c'] 50)) = .ok (.slice a2 (i + 1) c2) w2 ∧
      BRow w2 base a2 (i + 1) c2 xs ys bs ∧ (w.alloc (.cells #[.int .i64 (xs i), .int .i64 (ys i), .slice a' (bs i).length c'] 50)).grownBy w2 (a.map (·.block)) ∧ (∀ x, a2 = some x → base ≤ x.block) := by
  obtain ⟨i0, hi0, hz0, hz1, hz2⟩ := info_parts info_blk
  obtain ⟨A, C, ho, he⟩ := h
  obtain ⟨w0, hw0⟩ : ∃ w0, w.alloc (.cells #[.int .i64 (xs i), .int .i64 (ys i), .slice a' (bs i).length c'] 50) = w0 := ⟨_, rfl⟩
  have hB : Below w.heap.size w w0 := by rw [← hw0]; exact (Below.refl _ w).alloc (Nat.le_refl _) _
  have hnew : w0.heap[w.heap.size]? = some (.cells #[.int .i64 (xs i), .int .i64 (ys i), .slice a' (bs i).length c'] 50 (0, 0)) := by rw [← hw0]; exact lit_new rfl
  have hz0' : w0.heap.size = w.heap.size + 1 := by rw [← hw0]; simp
  have ho0 : w0.ownsRow base 50 3 (.slice a i c) i (bcells xs ys A bs C i) := by rw [← hw0]; exact ho.alloc _
  have hOj : ∀ j, j < i → Own w0 base (A j) (bs j).length (C j) (bs j) := fun j hj => (he j hj).1.below hB
  have hOn : Own w0 base a' (bs i).length c' (bs i) := hO.below hB
  rw [hw0]
  have hsrc : ∀ j u, ([.int .i64 (xs i), .int .i64 (ys i), .slice a' (bs i).length c'] : List Value)[j]? = some u → w0.cell? ((⟨w.heap.size, 0, none⟩ : Addr).add j) = some u := fun j u hu => by
    rw [show (Addr.add ⟨w.heap.size, 0, none⟩ j) = ⟨w.heap.size, j, none⟩ from by unfold Addr.add; split <;> simp_all, cell_of_row w0 _ j _ _ _ hnew]
    simpa using hu
  obtain ⟨v', w2, hr, ho2, hg, hnil, hat⟩ := run_append_own_at (P := Try.prog) w0 base 22 ty 50 i0 _ 3 40 Try.underlying22 hi0 hz0 hz1 hz2 rfl (by decide) (.slice a i c) i _ ho0 ⟨w.heap.size, 0, none⟩ 1 1 _ rfl hsrc (by intro u hu; simp at hu; rcases hu with rfl | rfl | rfl <;> rfl) (by unfold maxLen; omega) (by omega) (by omega)
  have hv : ∃ g c2, v' = .slice (some ⟨g, 0, none⟩) (i + 1) c2 ∧ base ≤ g := by
    rcases ho2.2 with ⟨rfl, e⟩ | ⟨g, cap, cur, rfl, hb, _⟩
    · omega
    · exact ⟨_, _, rfl, hb⟩
  obtain ⟨g, c2, rfl, hgb⟩ := hv
  have hga : (Value.slice a i c).ownBlock = a.map (·.block) := by cases a <;> rfl
  rw [hga] at hg hat
  have hne : ∀ (z : Addr), z.block < w.heap.size → (∀ y, a = some y → y.block ≠ z.block) → g ≠ z.block := fun z hz hs => by
    rcases hat with e | e
    · cases a with
      | none => simp [Value.ownBlock] at e
      | some y => have := hs y rfl; simp [Value.ownBlock] at e; omega
    · simp [Value.ownBlock] at e; omega
  have hk : ∀ (b : Option Addr) (n' c3 : Nat) (l : List Int), Own w0 base b n' c3 l → (∀ y z, a = some y → b = some z → y.block ≠ z.block) → Own w2 base b n' c3 l := fun b n' c3 l hb hs => hb.kept hg fun y hy e => by
    cases a with
    | none => simp at e
    | some y' => exact hs y' y rfl hy (by simpa using e)
  refine ⟨some ⟨g, 0, none⟩, c2, w2, hr, ⟨fun j => if j = i then a' else A j, fun j => if j = i then c' else C j, ?_, fun j hj => ?_⟩, hg, fun x hx => by cases hx; exact hgb⟩
  · simp only [bcells, if_true]
    rw [bcells_congr (A := A) (C := C) i (fun j hj => by simp [show j ≠ i by omega])]
    exact ho2
  · by_cases e : j = i
    · subst e
      simp only [if_true]
      refine ⟨hk _ _ _ _ hOn hsep, fun y z hy hz => ?_⟩
      cases hy
      exact hne z ((hO.blk z hz).2) fun y' hy' => hsep y' z hy' hz
    · simp only [if_neg e]
      refine ⟨hk _ _ _ _ (hOj j (by omega)) (he j (by omega)).2, fun y z hy hz => ?_⟩
      cases hy
      exact hne z (((he j (by omega)).1.blk z hz).2) fun y' hy' => (he j (by omega)).2 y' z hy' hz
/-- Blocks in rows of their own are blocks in memory. -/
theorem BRow.at {W : World} {base : Nat} {a : Option Addr} {i c : Nat} {xs ys : Nat → Int} {bs : Nat → List Int} (h : BRow W base a i c xs ys bs) : ∃ A C, BkAt W a i xs ys A C bs ∧ i ≤ c ∧ (∀ j, j < i → BIn W base (A j) (bs j).length (bs j)) := by
  obtain ⟨A, C, ho, he⟩ := h
  refine ⟨A, C, ?_, ?_, fun j hj => (he j hj).1.bin⟩
  · rcases ho.2 with ⟨hv, e0⟩ | ⟨g, cap, cur, hv, hb, hg, h1, h2, h3, h4⟩
    · exact ⟨0, 0, fun j hj => by omega⟩
    · simp only [Value.slice.injEq, true_and] at hv
      obtain ⟨rfl, rfl⟩ := hv
      have hc : ∀ j u, (bcells xs ys A bs C i)[j]? = some u → W.cell? ⟨g, j, none⟩ = some u := fun j u hu => by
        have := ho.cells (g := g) rfl j u hu
        rwa [show (Addr.add ⟨g, 0, none⟩ j) = ⟨g, j, none⟩ from by unfold Addr.add; split <;> simp_all] at this
      refine ⟨g, 0, fun j hj => ?_⟩
      obtain ⟨q1, q2, q3⟩ := bcells_at xs ys A bs C i j hj
      refine ⟨rfl, (Array.getElem?_eq_some_iff.1 hg).1, by rw [Nat.zero_add]; exact hc _ _ q1, by rw [Nat.zero_add]; exact hc _ _ q2, by rw [Nat.zero_add]; exact hc _ _ q3, (he j hj).1.bat, ?_⟩
      rcases (he j hj).1.row.2 with ⟨hv', h0⟩ | ⟨g', cap', cur', hv', _, _, hnc, _⟩
      · omega
      · simp only [Value.slice.injEq, true_and] at hv'; omega
  · rcases ho.2 with ⟨hv, h0⟩ | ⟨g', cap', cur', hv', _, _, hnc, _⟩
    · omega
    · simp only [Value.slice.injEq, true_and] at hv'; omega
end Go.Proofs.Ytfmabpddacfbcaa


/-
  A slice of gots in rows of its own, and one more appended.
-/
import Derived.Test.YtknpdcnhdmbbiaaWireOne
namespace Go.Proofs.Ytknpdcnhdmbbiaa
open Go.RowKit Go.Shelf
set_option linter.unusedVariables false
def gcells (xs : Nat → Int) (A : Nat → Option Addr) (bs : Nat → List Int) (C : Nat → Nat) : Nat → List Value
  | 0 => []
  | i + 1 => gcells xs A bs C i ++ [.int .u64 (xs i), .slice (A i) (bs i).length (C i)]
theorem gcells_len (xs : Nat → Int) (A : Nat → Option Addr) (bs : Nat → List Int) (C : Nat → Nat) : ∀ i, (gcells xs A bs C i).length = i * 2
  | 0 => rfl
  | i + 1 => by simp [gcells, gcells_len xs A bs C i]; omega
theorem gcells_congr {xs : Nat → Int} {A A' : Nat → Option Addr} {bs : Nat → List Int} {C C' : Nat → Nat} : ∀ i, (∀ j, j < i → A' j = A j ∧ C' j = C j) → gcells xs A' bs C' i = gcells xs A bs C i
  | 0, _ => rfl
  | i + 1, h => by
    obtain ⟨h1, h2⟩ := h i (by omega)
    simp only [gcells]
    rw [gcells_congr i (fun j hj => h j (by omega)), h1, h2]
theorem gcells_at (xs : Nat → Int) (A : Nat → Option Addr) (bs : Nat → List Int) (C : Nat → Nat) : ∀ i j, j < i → (gcells xs A bs C i)[j * 2]? = some (.int .u64 (xs j)) ∧ (gcells xs A bs C i)[j * 2 + 1]? = some (.slice (A j) (bs j).length (C j))
  | 0, j, h => by omega
  | i + 1, j, h => by
    have hl := gcells_len xs A bs C i
    by_cases e : j = i
    · subst e
      simp only [gcells]
      rw [List.getElem?_append_right (by omega), List.getElem?_append_right (by omega), hl, Nat.sub_self, show j * 2 + 1 - j * 2 = 1 from by omega]
      exact ⟨rfl, rfl⟩
    · simp only [gcells]
      rw [List.getElem?_append_left (by omega), List.getElem?_append_left (by omega)]
      exact gcells_at xs A bs C i j (by omega)
/-- i gots, all in memory from base on. -/
def GRow (W : World) (base : Nat) (a : Option Addr) (i c : Nat) (xs : Nat → Int) (bs : Nat → List Int) : Prop :=
  ∃ A C, W.ownsRow base 42 2 (.slice a i c) i (gcells xs A bs C i) ∧ ∀ j, j < i → Own W base (A j) (bs j).length (C j) (bs j) ∧ ∀ y z, a = some y → A j = some z → y.block ≠ z.block
theorem Own.kept {W W' : World} {base : Nat} {a : Option Addr} {n c : Nat} {l : List Int} {r : Option Nat} (h : Own W base a n c l) (hg : W.grownBy W' r) (hr : ∀ y, a = some y → r ≠ some y.block) : Own W' base a n c l :=
  ⟨h.row.kept hg (by
    cases a with
    | none => exact .inl rfl
    | some y => exact .inr (by
        have := hr y rfl
        simpa [Value.ownBlock] using fun e => this e.symm)), h.ok⟩
theorem GRow.kept {W W' : World} {base : Nat} {a : Option Addr} {i c : Nat} {xs : Nat → Int} {bs : Nat → List Int} {r : Nat} (h : GRow W base a i c xs bs) (hg : W.grownBy W' (some r)) (hr : r < base) : GRow W' base a i c xs bs := by
  obtain ⟨A, C, ho, he⟩ := h
  refine ⟨A, C, ho.kept hg (.inr ?_), fun j hj => ⟨(he j hj).1.kept hg fun y hy e => ?_, (he j hj).2⟩⟩
  · rcases ho.2 with ⟨e, _⟩ | ⟨g, cap, cur, e, hb, _⟩
    · rw [e]; simp [Value.ownBlock]
    · rw [e]; simp [Value.ownBlock]; omega
  · have := ((he j hj).1.blk y hy).1
    cases e; omega
theorem info_got : (Try.prog.info? 42).map (fun i => (i.zero, i.size, i.bytes)) = some (some (Value.agg #[.int .u64 0, .slice none 0 0]), 2, 32) := by kernel_rfl
theorem append_got (w : World) (ty : TypeId) (base : Nat) (a : Option Addr) (i c : Nat) (xs : Nat → Int) (bs : Nat → List Int) (h : GRow w base a i c xs bs) (a' : Option Addr) (c' : Nat) (hO : Own w base a' (bs i).length c' (bs i)) (hsep : ∀ y z, a = some y → a' = some z → y.block ≠ z.block) (hi : i ≤ 1000000) (hbase : base ≤ w.heap.size) :
    ∃ a2 c2 w2, (Builtin.append_ #[29, 29] ty #[.slice a i c, .slice (some ⟨w.heap.size, 0, none⟩) 1 1]).run Try.prog (w.alloc (.cells #[.int .u64 (xs i), .slice a' (bs i).length c'] 42)) = .ok (.slice a2 (i + 1) c2) w2 ∧
      GRow w2 base a2 (i + 1) c2 xs bs ∧ (w.alloc (.cells #[.int .u64 (xs i), .slice a' (bs i).length c'] 42)).grownBy w2 (a.map (·.block)) ∧ (∀ x, a2 = some x → base ≤ x.block) := by
  obtain ⟨i0, hi0, hz0, hz1, hz2⟩ := info_parts info_got
  obtain ⟨A, C, ho, he⟩ := h
  obtain ⟨w0, hw0⟩ : ∃ w0, w.alloc (.cells #[.int .u64 (xs i), .slice a' (bs i).length c'] 42) = w0 := ⟨_, rfl⟩
  have hB : Below w.heap.size w w0 := by rw [← hw0]; exact (Below.refl _ w).alloc (Nat.le_refl _) _
  have hnew : w0.heap[w.heap.size]? = some (.cells #[.int .u64 (xs i), .slice a' (bs i).length c'] 42 (0, 0)) := by rw [← hw0]; exact lit_new rfl
  have hz0' : w0.heap.size = w.heap.size + 1 := by rw [← hw0]; simp
  have ho0 : w0.ownsRow base 42 2 (.slice a i c) i (gcells xs A bs C i) := by rw [← hw0]; exact ho.alloc _
  have hOj : ∀ j, j < i → Own w0 base (A j) (bs j).length (C j) (bs j) := fun j hj => (he j hj).1.below hB
  have hOn : Own w0 base a' (bs i).length c' (bs i) := hO.below hB
  rw [hw0]
  have hsrc : ∀ j u, ([.int .u64 (xs i), .slice a' (bs i).length c'] : List Value)[j]? = some u → w0.cell? ((⟨w.heap.size, 0, none⟩ : Addr).add j) = some u := fun j u hu => by
    rw [show (Addr.add ⟨w.heap.size, 0, none⟩ j) = ⟨w.heap.size, j, none⟩ from by unfold Addr.add; split <;> simp_all, cell_of_row w0 _ j _ _ _ hnew]
    simpa using hu
  obtain ⟨v', w2, hr, ho2, hg, hnil, hat⟩ := run_append_own_at (P := Try.prog) w0 base 29 ty 42 i0 _ 2 32 Try.underlying29 hi0 hz0 hz1 hz2 rfl (by decide) (.slice a i c) i _ ho0 ⟨w.heap.size, 0, none⟩ 1 1 _ rfl hsrc (by intro u hu; simp at hu; rcases hu with rfl | rfl <;> rfl) (by unfold maxLen; omega) (by omega) (by omega)
  have hv : ∃ g c2, v' = .slice (some ⟨g, 0, none⟩) (i + 1) c2 ∧ base ≤ g := by
    rcases ho2.2 with ⟨rfl, e⟩ | ⟨g, cap, cur, rfl, hb, _⟩
    · omega
    · exact ⟨_, _, rfl, hb⟩
  obtain ⟨g, c2, rfl, hgb⟩ := hv
  have hga : (Value.slice a i c).ownBlock = a.map (·.block) := by cases a <;> rfl
  rw [hga] at hg hat
  have hne : ∀ (z : Addr), z.block < w.heap.size → (∀ y, a = some y → y.block ≠ z.block) → g ≠ z.block := fun z hz hs => by
    rcases hat with e | e
    · cases a with
      | none => simp [Value.ownBlock] at e
      | some y => have := hs y rfl; simp [Value.ownBlock] at e; omega
    · simp [Value.ownBlock] at e; omega
  have hk : ∀ (b : Option Addr) (n' c3 : Nat) (l : List Int), Own w0 base b n' c3 l → (∀ y z, a = some y → b = some z → y.block ≠ z.block) → Own w2 base b n' c3 l := fun b n' c3 l hb hs => hb.kept hg fun y hy e => by
    cases a with
    | none => simp at e
    | some y' => exact hs y' y rfl hy (by simpa using e)
  refine ⟨some ⟨g, 0, none⟩, c2, w2, hr, ⟨fun j => if j = i then a' else A j, fun j => if j = i then c' else C j, ?_, fun j hj => ?_⟩, hg, fun x hx => by cases hx; exact hgb⟩
  · simp only [gcells, if_true]
    rw [gcells_congr (A := A) (C := C) i (fun j hj => by simp [show j ≠ i by omega])]
    exact ho2
  · by_cases e : j = i
    · subst e
      simp only [if_true]
      refine ⟨hk _ _ _ _ hOn hsep, fun y z hy hz => ?_⟩
      cases hy
      exact hne z ((hO.blk z hz).2) fun y' hy' => hsep y' z hy' hz
    · simp only [if_neg e]
      refine ⟨hk _ _ _ _ (hOj j (by omega)) (he j (by omega)).2, fun y z hy hz => ?_⟩
      cases hy
      exact hne z (((he j (by omega)).1.blk z hz).2) fun y' hy' => (he j (by omega)).2 y' z hy' hz
end Go.Proofs.Ytknpdcnhdmbbiaa


/-
  A slice of imprints in rows of its own, and one more appended.
-/
import Derived.Test.YtppgjodehphaeaaIbFold
import Derived.Test.YtppgjodehphaeaaWireGot
namespace Go.Proofs.Ytppgjodehphaeaa
open Go.RowKit Go.Shelf
set_option linter.unusedVariables false
def icells (h : Nat → Nat → Int) (A : Nat → Option Addr) (bs : Nat → List Int) (C : Nat → Nat) : Nat → List Value
  | 0 => []
  | i + 1 => icells h A bs C i ++ [.int .u8 (h i 0), .int .u8 (h i 1), .int .u8 (h i 2), .int .u8 (h i 3), .int .u8 (h i 4), .int .u8 (h i 5), .int .u8 (h i 6), .int .u8 (h i 7), .slice (A i) (bs i).length (C i)]
theorem icells_len (h : Nat → Nat → Int) (A : Nat → Option Addr) (bs : Nat → List Int) (C : Nat → Nat) : ∀ i, (icells h A bs C i).length = i * 9
  | 0 => rfl
  | i + 1 => by simp [icells, icells_len h A bs C i]; omega
theorem icells_congr {h h' : Nat → Nat → Int} {A A' : Nat → Option Addr} {bs bs' : Nat → List Int} {C C' : Nat → Nat} : ∀ i, (∀ j, j < i → h' j = h j ∧ A' j = A j ∧ bs' j = bs j ∧ C' j = C j) → icells h' A' bs' C' i = icells h A bs C i
  | 0, _ => rfl
  | i + 1, hh => by
    obtain ⟨h0, h1, h2, h3⟩ := hh i (by omega)
    simp only [icells]
    rw [icells_congr i (fun j hj => hh j (by omega)), h0, h1, h2, h3]
theorem icells_at (h : Nat → Nat → Int) (A : Nat → Option Addr) (bs : Nat → List Int) (C : Nat → Nat) : ∀ i j, j < i → ∀ k, k < 9 → (icells h A bs C i)[j * 9 + k]? = ([.int .u8 (h j 0), .int .u8 (h j 1), .int .u8 (h j 2), .int .u8 (h j 3), .int .u8 (h j 4), .int .u8 (h j 5), .int .u8 (h j 6), .int .u8 (h j 7), .slice (A j) (bs j).length (C j)] : List Value)[k]?
  | 0, j, hj, _, _ => by omega
  | i + 1, j, hj, k, hk => by
    have hl := icells_len h A bs C i
    by_cases e : j = i
    · subst e
      simp only [icells]
      rw [List.getElem?_append_right (by omega), hl, show j * 9 + k - j * 9 = k from by omega]
    · simp only [icells]
      rw [List.getElem?_append_left (by omega)]
      exact icells_at h A bs C i j (by omega) k hk
/-- i imprints, all in memory from base on. -/
structure IRow (W : World) (base : Nat) (a : Option Addr) (i c : Nat) (h : Nat → Nat → Int) (A : Nat → Option Addr) (bs : Nat → List Int) (C : Nat → Nat) : Prop where
  row : W.ownsRow base 27 9 (.slice a i c) i (icells h A bs C i)
  own : ∀ j, j < i → Own W base (A j) (bs j).length (C j) (bs j)
  ne : ∀ j, j < i → ∀ y z, a = some y → A j = some z → y.block ≠ z.block
theorem IRow.blk {W : World} {base : Nat} {a : Option Addr} {i c : Nat} {h : Nat → Nat → Int} {A : Nat → Option Addr} {bs : Nat → List Int} {C : Nat → Nat} (hr : IRow W base a i c h A bs C) : ∀ x, a = some x → base ≤ x.block ∧ x.block < W.heap.size := fun x hx => by
  subst hx; exact hr.row.lt x.block rfl
theorem IRow.keptw {W W' : World} {base : Nat} {a : Option Addr} {i c : Nat} {h : Nat → Nat → Int} {A : Nat → Option Addr} {bs : Nat → List Int} {C : Nat → Nat} {r : Option Nat} (hr : IRow W base a i c h A bs C) (hg : W.grownBy W' r) (h1 : ∀ y, a = some y → r ≠ some y.block) (h2 : ∀ j, j < i → ∀ z, A j = some z → r ≠ some z.block) : IRow W' base a i c h A bs C :=
  ⟨hr.row.kept hg (by
    cases a with
    | none => exact .inl rfl
    | some y => exact .inr (by
        have := h1 y rfl
        simpa [Value.ownBlock] using fun e => this e.symm)), fun j hj => (hr.own j hj).kept hg (h2 j hj), hr.ne⟩
theorem IRow.below {W W' : World} {base : Nat} {a : Option Addr} {i c : Nat} {h : Nat → Nat → Int} {A : Nat → Option Addr} {bs : Nat → List Int} {C : Nat → Nat} (hr : IRow W base a i c h A bs C) (hb : Below W.heap.size W W') : IRow W' base a i c h A bs C :=
  hr.keptw (r := none) ⟨hb.os, hb.tape, hb.output, hb.size, fun j hj _ => hb.block j hj⟩ (fun _ _ e => by cases e) (fun _ _ _ _ e => by cases e)
theorem IRow.nil (W : World) (base : Nat) (a : Option Addr) (c : Nat) (h : Nat → Nat → Int) (A : Nat → Option Addr) (bs : Nat → List Int) (C : Nat → Nat) (hr : W.ownsRow base 27 9 (.slice a 0 c) 0 []) : IRow W base a 0 c h A bs C :=
  ⟨hr, fun j hj => by omega, fun j hj => by omega⟩
theorem info_bits : (Try.prog.info? 27).map (fun i => (i.zero, i.size, i.bytes)) = some (some (Value.agg #[.int .u8 0, .int .u8 0, .int .u8 0, .int .u8 0, .int .u8 0, .int .u8 0, .int .u8 0, .int .u8 0, .slice none 0 0]), 9, 32) := by kernel_rfl
theorem append_bits (w : World) (ty : TypeId) (base : Nat) (a : Option Addr) (i c : Nat) (h : Nat → Nat → Int) (A : Nat → Option Addr) (bs : Nat → List Int) (C : Nat → Nat) (hr : IRow w base a i c h A bs C) (hO : Own w base (A i) (bs i).length (C i) (bs i)) (hsep : ∀ y z, a = some y → A i = some z → y.block ≠ z.block) (hi : i ≤ 1000000) (hbase : base ≤ w.heap.size) :
    ∃ a2 c2 w2, (Builtin.append_ #[54, 54] ty #[.slice a i c, .slice (some ⟨w.heap.size, 0, none⟩) 1 1]).run Try.prog (w.alloc (.cells #[.int .u8 (h i 0), .int .u8 (h i 1), .int .u8 (h i 2), .int .u8 (h i 3), .int .u8 (h i 4), .int .u8 (h i 5), .int .u8 (h i 6), .int .u8 (h i 7), .slice (A i) (bs i).length (C i)] 27)) = .ok (.slice a2 (i + 1) c2) w2 ∧
      IRow w2 base a2 (i + 1) c2 h A bs C ∧ (w.alloc (.cells #[.int .u8 (h i 0), .int .u8 (h i 1), .int .u8 (h i 2), .int .u8 (h i 3), .int .u8 (h i 4), .int .u8 (h i 5), .int .u8 (h i 6), .int .u8 (h i 7), .slice (A i) (bs i).length (C i)] 27)).grownBy w2 (a.map (·.block)) ∧ (∀ x, a2 = some x → (∃ y, a = some y ∧ x.block = y.block) ∨ w.heap.size < x.block) := by
  obtain ⟨i0, hi0, hz0, hz1, hz2⟩ := info_parts info_bits
  obtain ⟨ho, he, hne0⟩ := hr
  obtain ⟨w0, hw0⟩ : ∃ w0, w.alloc (.cells #[.int .u8 (h i 0), .int .u8 (h i 1), .int .u8 (h i 2), .int .u8 (h i 3), .int .u8 (h i 4), .int .u8 (h i 5), .int .u8 (h i 6), .int .u8 (h i 7), .slice (A i) (bs i).length (C i)] 27) = w0 := ⟨_, rfl⟩
  have hB : Below w.heap.size w w0 := by rw [← hw0]; exact (Below.refl _ w).alloc (Nat.le_refl _) _
  have hnew : w0.heap[w.heap.size]? = some (.cells #[.int .u8 (h i 0), .int .u8 (h i 1), .int .u8 (h i 2), .int .u8 (h i 3), .int .u8 (h i 4), .int .u8 (h i 5), .int .u8 (h i 6), .int .u8 (h i 7), .slice (A i) (bs i).length (C i)] 27 (0, 0)) := by rw [← hw0]; exact lit_new rfl
  have hz0' : w0.heap.size = w.heap.size + 1 := by rw [← hw0]; simp
  have ho0 : w0.ownsRow base 27 9 (.slice a i c) i (icells h A bs C i) := by rw [← hw0]; exact ho.alloc _
  have hOj : ∀ j, j < i → Own w0 base (A j) (bs j).length (C j) (bs j) := fun j hj => (he j hj).below hB
  have hOn : Own w0 base (A i) (bs i).length (C i) (bs i) := hO.below hB
  rw [hw0]
  have hsrc : ∀ j u, ([.int .u8 (h i 0), .int .u8 (h i 1), .int .u8 (h i 2), .int .u8 (h i 3), .int .u8 (h i 4), .int .u8 (h i 5), .int .u8 (h i 6), .int .u8 (h i 7), .slice (A i) (bs i).length (C i)] : List Value)[j]? = some u → w0.cell? ((⟨w.heap.size, 0, none⟩ : Addr).add j) = some u := fun j u hu => by
    rw [show (Addr.add ⟨w.heap.size, 0, none⟩ j) = ⟨w.heap.size, j, none⟩ from by unfold Addr.add; split <;> simp_all, cell_of_row w0 _ j _ _ _ hnew]
    simpa using hu
  obtain ⟨v', w2, hr, ho2, hg, hnil, hat⟩ := run_append_own_at (P := Try.prog) w0 base 54 ty 27 i0 _ 9 32 Try.underlying54 hi0 hz0 hz1 hz2 rfl (by decide) (.slice a i c) i _ ho0 ⟨w.heap.size, 0, none⟩ 1 1 _ rfl hsrc (by intro u hu; simp at hu; rcases hu with rfl | rfl | rfl | rfl | rfl | rfl | rfl | rfl | rfl <;> rfl) (by unfold maxLen; omega) (by omega) (by omega)
  have hv : ∃ g c2, v' = .slice (some ⟨g, 0, none⟩) (i + 1) c2 ∧ base ≤ g := by
    rcases ho2.2 with ⟨rfl, e⟩ | ⟨g, cap, cur, rfl, hb, _⟩
    · omega
    · exact ⟨_, _, rfl, hb⟩
  obtain ⟨g, c2, rfl, hgb⟩ := hv
  have hga : (Value.slice a i c).ownBlock = a.map (·.block) := by cases a <;> rfl
  rw [hga] at hg hat
  have hne : ∀ (z : Addr), z.block < w.heap.size → (∀ y, a = some y → y.block ≠ z.block) → g ≠ z.block := fun z hz hs => by
    rcases hat with e | e
    · cases a with
      | none => simp [Value.ownBlock] at e
      | some y => have := hs y rfl; simp [Value.ownBlock] at e; omega
    · simp [Value.ownBlock] at e; omega
  have hk : ∀ (b : Option Addr) (n' c3 : Nat) (l : List Int), Own w0 base b n' c3 l → (∀ y z, a = some y → b = some z → y.block ≠ z.block) → Own w2 base b n' c3 l := fun b n' c3 l hb hs => hb.kept hg fun y hy e => by
    cases a with
    | none => simp at e
    | some y' => exact hs y' y rfl hy (by simpa using e)
  refine ⟨some ⟨g, 0, none⟩, c2, w2, hr, ⟨ho2, fun j hj => ?_, fun j hj y z hy hz => ?_⟩, hg, fun x hx => ?_⟩
  · by_cases e : j = i
    · subst e; exact hk _ _ _ _ hOn hsep
    · exact hk _ _ _ _ (hOj j (by omega)) (hne0 j (by omega))
  · cases hy
    by_cases e : j = i
    · subst e
      exact hne z ((hO.blk z hz).2) fun y' hy' => hsep y' z hy' hz
    · exact hne z ((he j (by omega)).blk z hz).2 fun y' hy' => hne0 j (by omega) y' z hy' hz
  · cases hx
    rcases hat with e | e
    · cases a with
      | none => simp [Value.ownBlock] at e
      | some y => left; exact ⟨y, rfl, by simp [Value.ownBlock] at e; exact e⟩
    · right; simp [Value.ownBlock] at e; show w.heap.size < g; omega
end Go.Proofs.Ytppgjodehphaeaa

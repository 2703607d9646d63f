
/-
  The reference's imprints in a row of their own, and one more appended.
-/
import Derived.Test.YtppgjodehphaeaaIbRow
import Derived.Test.YtppgjodehphaeaaIbRef
namespace Go.Proofs.Ytppgjodehphaeaa
open Go.RowKit Go.Shelf
set_option linter.unusedVariables false
def fcells (AH : Nat → Option Addr) (CH : Nat → Nat) (A : Nat → Option Addr) (bn C : Nat → Nat) : Nat → List Value
  | 0 => []
  | i + 1 => fcells AH CH A bn C i ++ [.slice (AH i) 8 (CH i), .slice (A i) (bn i) (C i)]
theorem fcells_len (AH : Nat → Option Addr) (CH : Nat → Nat) (A : Nat → Option Addr) (bn C : Nat → Nat) : ∀ i, (fcells AH CH A bn C i).length = i * 2
  | 0 => rfl
  | i + 1 => by simp [fcells, fcells_len AH CH A bn C i]; omega
theorem fcells_congr {AH AH' : Nat → Option Addr} {CH CH' : Nat → Nat} {A : Nat → Option Addr} {bn C : Nat → Nat} : ∀ i, (∀ j, j < i → AH' j = AH j ∧ CH' j = CH j) → fcells AH' CH' A bn C i = fcells AH CH A bn C i
  | 0, _ => rfl
  | i + 1, hh => by
    obtain ⟨h0, h1⟩ := hh i (by omega)
    simp only [fcells]
    rw [fcells_congr i (fun j hj => hh j (by omega)), h0, h1]
theorem fcells_at (AH : Nat → Option Addr) (CH : Nat → Nat) (A : Nat → Option Addr) (bn C : Nat → Nat) : ∀ i j, j < i → (fcells AH CH A bn C i)[j * 2]? = some (.slice (AH j) 8 (CH j)) ∧ (fcells AH CH A bn C i)[j * 2 + 1]? = some (.slice (A j) (bn j) (C j))
  | 0, j, hj => by omega
  | i + 1, j, hj => by
    have hl := fcells_len AH CH A bn C i
    by_cases e : j = i
    · subst e
      simp only [fcells]
      rw [List.getElem?_append_right (by omega), List.getElem?_append_right (by omega), hl, Nat.sub_self, show j * 2 + 1 - j * 2 = 1 from by omega]
      exact ⟨rfl, rfl⟩
    · simp only [fcells]
      rw [List.getElem?_append_left (by omega), List.getElem?_append_left (by omega)]
      exact fcells_at AH CH A bn C i j (by omega)
/-- i of the reference's imprints; their heads are in memory from base on. -/
def FRow (W : World) (base : Nat) (a : Option Addr) (i c : Nat) (hl : Nat → List Int) (A : Nat → Option Addr) (bn C : Nat → Nat) : Prop :=
  ∃ AH CH, W.ownsRow base 32 2 (.slice a i c) i (fcells AH CH A bn C i) ∧ ∀ j, j < i → Own W base (AH j) 8 (CH j) (hl j) ∧ ∀ y z, a = some y → AH j = some z → y.block ≠ z.block
theorem FRow.blk {W : World} {base : Nat} {a : Option Addr} {i c : Nat} {hl : Nat → List Int} {A : Nat → Option Addr} {bn C : Nat → Nat} (h : FRow W base a i c hl A bn C) : ∀ x, a = some x → base ≤ x.block ∧ x.block < W.heap.size := fun x hx => by
  obtain ⟨AH, CH, hr, _⟩ := h
  subst hx; exact hr.lt x.block rfl
theorem FRow.below {W W' : World} {base : Nat} {a : Option Addr} {i c : Nat} {hl : Nat → List Int} {A : Nat → Option Addr} {bn C : Nat → Nat} (h : FRow W base a i c hl A bn C) (hb : Below W.heap.size W W') : FRow W' base a i c hl A bn C := by
  obtain ⟨AH, CH, hr, he⟩ := h
  exact ⟨AH, CH, hr.kept (row := none) ⟨hb.os, hb.tape, hb.output, hb.size, fun j hj _ => hb.block j hj⟩ (Classical.em _), fun j hj => ⟨(he j hj).1.below hb, (he j hj).2⟩⟩
theorem info_rbits : (Try.prog.info? 32).map (fun i => (i.zero, i.size, i.bytes)) = some (some (Value.agg #[.slice none 0 0, .slice none 0 0]), 2, 48) := by kernel_rfl
theorem append_rbits (w : World) (ty : TypeId) (base : Nat) (a : Option Addr) (i c : Nat) (hl : Nat → List Int) (A : Nat → Option Addr) (bn C : Nat → Nat) (h : FRow w base a i c hl A bn C) (a' : Option Addr) (c' : Nat) (hO : Own w base a' 8 c' (hl i)) (hsep : ∀ y z, a = some y → a' = some z → y.block ≠ z.block) (hi : i ≤ 1000000) (hbase : base ≤ w.heap.size) :
    ∃ a2 c2 w2, (Builtin.append_ #[57, 57] ty #[.slice a i c, .slice (some ⟨w.heap.size, 0, none⟩) 1 1]).run Try.prog (w.alloc (.cells #[.slice a' 8 c', .slice (A i) (bn i) (C i)] 32)) = .ok (.slice a2 (i + 1) c2) w2 ∧
      FRow w2 base a2 (i + 1) c2 hl A bn C ∧ Below base w w2 ∧ (∀ k, k < w.heap.size → (∀ y, a = some y → y.block ≠ k) → w2.heap[k]? = w.heap[k]?) := by
  obtain ⟨i0, hi0, hz0, hz1, hz2⟩ := info_parts info_rbits
  obtain ⟨AH, CH, ho, he⟩ := h
  have hab := fun x (hx : a = some x) => (FRow.blk ⟨AH, CH, ho, he⟩ x hx)
  obtain ⟨w0, hw0⟩ : ∃ w0, w.alloc (.cells #[.slice a' 8 c', .slice (A i) (bn i) (C i)] 32) = w0 := ⟨_, rfl⟩
  have hB : Below w.heap.size w w0 := by rw [← hw0]; exact (Below.refl _ w).alloc (Nat.le_refl _) _
  have hnew : w0.heap[w.heap.size]? = some (.cells #[.slice a' 8 c', .slice (A i) (bn i) (C i)] 32 (0, 0)) := by rw [← hw0]; exact lit_new rfl
  have hz0' : w0.heap.size = w.heap.size + 1 := by rw [← hw0]; simp
  have ho0 : w0.ownsRow base 32 2 (.slice a i c) i (fcells AH CH A bn C i) := by rw [← hw0]; exact ho.alloc _
  have hOj : ∀ j, j < i → Own w0 base (AH j) 8 (CH j) (hl j) := fun j hj => (he j hj).1.below hB
  have hOn : Own w0 base a' 8 c' (hl i) := hO.below hB
  rw [hw0]
  have hsrc : ∀ j u, ([.slice a' 8 c', .slice (A i) (bn i) (C i)] : List Value)[j]? = some u → w0.cell? ((⟨w.heap.size, 0, none⟩ : Addr).add j) = some u := fun j u hu => by
    rw [show (Addr.add ⟨w.heap.size, 0, none⟩ j) = ⟨w.heap.size, j, none⟩ from by unfold Addr.add; split <;> simp_all, cell_of_row w0 _ j _ _ _ hnew]
    simpa using hu
  obtain ⟨v', w2, hr, ho2, hg, hnil, hat⟩ := run_append_own_at (P := Try.prog) w0 base 57 ty 32 i0 _ 2 48 Try.underlying57 hi0 hz0 hz1 hz2 rfl (by decide) (.slice a i c) i _ ho0 ⟨w.heap.size, 0, none⟩ 1 1 _ rfl hsrc (by intro u hu; simp at hu; rcases hu with rfl | rfl <;> rfl) (by unfold maxLen; omega) (by omega) (by omega)
  have hv : ∃ g c2, v' = .slice (some ⟨g, 0, none⟩) (i + 1) c2 ∧ base ≤ g := by
    rcases ho2.2 with ⟨rfl, e⟩ | ⟨g, cap, cur, rfl, hb, _⟩
    · omega
    · exact ⟨_, _, rfl, hb⟩
  obtain ⟨g, c2, rfl, hgb⟩ := hv
  have hga : (Value.slice a i c).ownBlock = a.map (·.block) := by cases a <;> rfl
  rw [hga] at hg hat
  have hne : ∀ (z : Addr), z.block < w.heap.size → (∀ y, a = some y → y.block ≠ z.block) → g ≠ z.block := fun z hz hs => by
    rcases hat with e | e
    · cases a with
      | none => simp [Value.ownBlock] at e
      | some y => have := hs y rfl; simp [Value.ownBlock] at e; omega
    · simp [Value.ownBlock] at e; omega
  have hk : ∀ (b : Option Addr) (n' c3 : Nat) (l : List Int), Own w0 base b n' c3 l → (∀ y z, a = some y → b = some z → y.block ≠ z.block) → Own w2 base b n' c3 l := fun b n' c3 l hb hs => hb.kept hg fun y hy e => by
    cases a with
    | none => simp at e
    | some y' => exact hs y' y rfl hy (by simpa using e)
  refine ⟨some ⟨g, 0, none⟩, c2, w2, hr, ⟨fun j => if j = i then a' else AH j, fun j => if j = i then c' else CH j, ?_, fun j hj => ?_⟩, (hB.mono hbase).grown hg (by omega) (fun k e => ?_), fun k hk1 hk2 => ?_⟩
  · simp only [fcells, if_true]
    rw [fcells_congr (AH := AH) (CH := CH) i (fun j hj => by simp [show j ≠ i by omega])]
    exact ho2
  · by_cases e : j = i
    · subst e
      simp only [if_true]
      refine ⟨hk _ _ _ _ hOn hsep, fun y z hy hz => ?_⟩
      cases hy
      exact hne z ((hO.blk z hz).2) fun y' hy' => hsep y' z hy' hz
    · simp only [if_neg e]
      refine ⟨hk _ _ _ _ (hOj j (by omega)) (he j (by omega)).2, fun y z hy hz => ?_⟩
      cases hy
      exact hne z (((he j (by omega)).1.blk z hz).2) fun y' hy' => (he j (by omega)).2 y' z hy' hz
  · cases a with
    | none => simp at e
    | some y => have := (hab y rfl).1; simp at e; omega
  · refine (hg.block k (by omega) (fun e => ?_)).trans (hB.block k hk1)
    cases a with
    | none => simp at e
    | some y => exact hk2 y rfl (by simp at e; exact e.symm)
/-- The cells of the reference's imprint k of a row at g. -/
theorem FRow.at {W : World} {base : Nat} {a : Option Addr} {i c : Nat} {hl : Nat → List Int} {A : Nat → Option Addr} {bn C : Nat → Nat} (h : FRow W base a i c hl A bn C) : ∃ (g : Nat) (AH : Nat → Option Addr) (CH : Nat → Nat), (0 < i → a = some ⟨g, 0, none⟩) ∧ (0 < i → g < W.heap.size) ∧ ∀ k, k < i → W.cell? ⟨g, 0 + k * 2, none⟩ = some (.slice (AH k) 8 (CH k)) ∧ W.cell? ⟨g, 0 + k * 2 + 1, none⟩ = some (.slice (A k) (bn k) (C k)) ∧ BAt W (AH k) 8 (hl k) := by
  obtain ⟨AH, CH, hr, he⟩ := h
  rcases hr.2 with ⟨hv, rfl⟩ | ⟨g, cap, cur, hv, hb, hg, h1, h2, h3, h4⟩
  · exact ⟨0, AH, CH, fun e => by omega, fun e => by omega, fun k hk => by omega⟩
  · simp only [Value.slice.injEq, true_and] at hv
    obtain ⟨rfl, rfl⟩ := hv
    refine ⟨g, AH, CH, fun _ => rfl, fun _ => (Array.getElem?_eq_some_iff.1 hg).1, fun k hk => ?_⟩
    have hlen := fcells_len AH CH A bn C i
    obtain ⟨k1, k2⟩ := fcells_at AH CH A bn C i k hk
    refine ⟨?_, ?_, (he k hk).1.bat⟩
    · rw [cell_of_row W g _ _ _ _ hg, ← k1, ← h4, List.getElem?_take, if_pos (by omega), Array.getElem?_toList, Nat.zero_add]
    · rw [cell_of_row W g _ _ _ _ hg, ← k2, ← h4, List.getElem?_take, if_pos (by omega), Array.getElem?_toList, Nat.zero_add]
end Go.Proofs.Ytppgjodehphaeaa

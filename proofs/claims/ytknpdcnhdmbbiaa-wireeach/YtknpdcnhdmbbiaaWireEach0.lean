
/-
  What WireEach's walk wants: the rounds in numbers; rows of rows of gots.
-/
import Derived.Test.YtknpdcnhdmbbiaaWireReads0
namespace Go.Proofs.Ytknpdcnhdmbbiaa
open Go.RowKit Go.Shelf
set_option linter.unusedVariables false
/-- Where round r begins. -/
def eachP (ks ns : Nat → Int) (n n0 : Nat) : Nat → Nat
  | 0 => 0
  | r + 1 => eachP ks ns n n0 r + pos ks ns (n - eachP ks ns n n0 r) n0
/-- A round that goes well. -/
def Good (ks ns : Nat → Int) (n n0 : Nat) (most : Int) (r : Nat) : Prop :=
  0 < n - eachP ks ns n n0 r ∧ (∀ j, j < n0 → noAt ks ns (n - eachP ks ns n n0 r) j = 0) ∧ 0 < pos ks ns (n - eachP ks ns n n0 r) n0 ∧ (r : Int) < most
theorem eachP_ge (ks ns : Nat → Int) (n n0 : Nat) (most : Int) : ∀ r, (∀ j, j < r → Good ks ns n n0 most j) → r ≤ eachP ks ns n n0 r ∧ eachP ks ns n n0 r ≤ n
  | 0, _ => ⟨Nat.le_refl _, Nat.zero_le _⟩
  | r + 1, h => by
    have ih := eachP_ge ks ns n n0 most r (fun j hj => h j (by omega))
    obtain ⟨h1, h2, h3, _⟩ := h r (by omega)
    have := pos_le ks ns (n - eachP ks ns n n0 r) n0 h2
    simp only [eachP]; omega
open Classical in
theorem first_bad (ks ns : Nat → Int) (n n0 : Nat) (most : Int) : ∀ K, ∃ R, R ≤ K ∧ (∀ r, r < R → Good ks ns n n0 most r) ∧ (R < K → ¬ Good ks ns n n0 most R)
  | 0 => ⟨0, Nat.le_refl _, fun r hr => by omega, fun h => by omega⟩
  | K + 1 => by
    obtain ⟨R, h1, h2, h3⟩ := first_bad ks ns n n0 most K
    by_cases e : R = K
    · subst e
      by_cases hg : Good ks ns n n0 most R
      · exact ⟨R + 1, Nat.le_refl _, fun r hr => by
          by_cases e : r = R
          · subst e; exact hg
          · exact h2 r (by omega), fun h => by omega⟩
      · exact ⟨R, by omega, h2, fun _ => hg⟩
    · exact ⟨R, by omega, h2, fun _ => h3 (by omega)⟩
/-- How it ends, at round R. -/
def Says (ks ns : Nat → Int) (n n0 : Nat) (most : Int) (R rows : Nat) (f : Int) : Prop :=
  (n - eachP ks ns n n0 R = 0 ∧ rows = R ∧ f = 0) ∨
  (0 < n - eachP ks ns n n0 R ∧ rows = 0 ∧ ∃ F, F ≤ n0 ∧ (∀ j, j < F → noAt ks ns (n - eachP ks ns n n0 R) j = 0) ∧ (F < n0 → noAt ks ns (n - eachP ks ns n n0 R) F ≠ 0) ∧
    ((F < n0 ∧ f = noAt ks ns (n - eachP ks ns n n0 R) F) ∨ (F = n0 ∧ pos ks ns (n - eachP ks ns n n0 R) n0 = 0 ∧ f = 21) ∨ (F = n0 ∧ 0 < pos ks ns (n - eachP ks ns n n0 R) n0 ∧ most ≤ (R : Int) ∧ f = 3)))
theorem each_says (ks ns : Nat → Int) (n n0 : Nat) (most : Int) : ∃ R rows f, R ≤ n ∧ rows ≤ R ∧ (∀ r, r < R → Good ks ns n n0 most r) ∧ Says ks ns n n0 most R rows f := by
  obtain ⟨R, h1, h2, h3⟩ := first_bad ks ns n n0 most (n + 1)
  have hP := eachP_ge ks ns n n0 most R h2
  have hR : R ≤ n := by omega
  have hb := h3 (by omega)
  by_cases h0 : n - eachP ks ns n n0 R = 0
  · exact ⟨R, R, 0, hR, Nat.le_refl _, h2, .inl ⟨h0, rfl, rfl⟩⟩
  · obtain ⟨F, hF, hok, hbad⟩ := first_no ks ns (n - eachP ks ns n n0 R) n0
    by_cases hFn : F < n0
    · exact ⟨R, 0, _, hR, Nat.zero_le _, h2, .inr ⟨by omega, rfl, F, hF, hok, hbad, .inl ⟨hFn, rfl⟩⟩⟩
    · obtain rfl : F = n0 := by omega
      by_cases hp : pos ks ns (n - eachP ks ns n F R) F = 0
      · exact ⟨R, 0, 21, hR, Nat.zero_le _, h2, .inr ⟨by omega, rfl, F, hF, hok, hbad, .inr (.inl ⟨rfl, hp, rfl⟩)⟩⟩
      · refine ⟨R, 0, 3, hR, Nat.zero_le _, h2, .inr ⟨by omega, rfl, F, hF, hok, hbad, .inr (.inr ⟨rfl, by omega, ?_, rfl⟩)⟩⟩
        by_cases hm : (R : Int) < most
        · exact absurd ⟨by omega, hok, by omega, hm⟩ hb
        · omega
/-- Gots in rows of their own that keep off block y. -/
def GOff (W : World) (base : Nat) (a : Option Addr) (i c : Nat) (xs : Nat → Int) (bs : Nat → List Int) (y : Option Nat) : Prop :=
  ∃ A C, W.ownsRow base 42 2 (.slice a i c) i (gcells xs A bs C i) ∧ (∀ j, j < i → Own W base (A j) (bs j).length (C j) (bs j) ∧ (∀ y z, a = some y → A j = some z → y.block ≠ z.block) ∧ ∀ z, A j = some z → y ≠ some z.block) ∧ ∀ z, a = some z → y ≠ some z.block
theorem GOff.row {W : World} {base : Nat} {a : Option Addr} {i c : Nat} {xs : Nat → Int} {bs : Nat → List Int} {y : Option Nat} (h : GOff W base a i c xs bs y) : GRow W base a i c xs bs := by
  obtain ⟨A, C, ho, he, _⟩ := h
  exact ⟨A, C, ho, fun j hj => ⟨(he j hj).1, (he j hj).2.1⟩⟩
theorem GRow.off {W : World} {base base' : Nat} {a : Option Addr} {i c : Nat} {xs : Nat → Int} {bs : Nat → List Int} {y : Option Nat} (h : GRow W base a i c xs bs) (hy : ∀ k, y = some k → k < base) (hb : base' ≤ base) : GOff W base' a i c xs bs y := by
  have hab := h.blk
  obtain ⟨A, C, ho, he⟩ := h
  have hm : GRow W base' a i c xs bs := GRow.mono ⟨A, C, ho, he⟩ hb
  refine ⟨A, C, ⟨ho.1, ?_⟩, fun j hj => ⟨(he j hj).1.mono hb, (he j hj).2, fun z hz e => ?_⟩, fun z hz e => ?_⟩
  · rcases ho.2 with h | ⟨g, cap, cur, e, h1, h2⟩
    · exact .inl h
    · exact .inr ⟨g, cap, cur, e, Nat.le_trans hb h1, h2⟩
  · have := hy _ e; have := ((he j hj).1.blk z hz).1; omega
  · have := hy _ e; have := (hab z hz).1; omega
theorem GOff.next {w w0 w2 : World} {base : Nat} {a : Option Addr} {i c : Nat} {xs : Nat → Int} {bs : Nat → List Int} {y y' : Option Nat} (h : GOff w base a i c xs bs y) (hB : Below w.heap.size w w0) (hg : w0.grownBy w2 y) (hy : y' = y ∨ ∃ k, y' = some k ∧ w.heap.size ≤ k) : GOff w2 base a i c xs bs y' := by
  have hab := h.row.blk
  obtain ⟨A, C, ho, he, ha⟩ := h
  refine ⟨A, C, (ho.kept (grown_below hB none) (by cases a <;> simp [Value.ownBlock])).kept hg ?_, fun j hj => ⟨((he j hj).1.below hB).kept hg fun z hz e => (he j hj).2.2 z hz e, (he j hj).2.1, fun z hz e => ?_⟩, fun z hz e => ?_⟩
  · cases a with
    | none => exact .inl rfl
    | some z => exact .inr (by have := ha z rfl; simpa [Value.ownBlock] using fun e => this e.symm)
  · rcases hy with rfl | ⟨k, rfl, hk⟩
    · exact (he j hj).2.2 z hz e
    · have := ((he j hj).1.blk z hz).2; simp at e; omega
  · rcases hy with rfl | ⟨k, rfl, hk⟩
    · exact ha z hz e
    · have := (hab z hz).2; simp at e; omega
theorem GOff.below {W W' : World} {base : Nat} {a : Option Addr} {i c : Nat} {xs : Nat → Int} {bs : Nat → List Int} {y : Option Nat} (h : GOff W base a i c xs bs y) (hb : Below W.heap.size W W') : GOff W' base a i c xs bs y := by
  obtain ⟨A, C, ho, he, ha⟩ := h
  exact ⟨A, C, ho.kept (grown_below hb none) (by cases a <;> simp [Value.ownBlock]), fun j hj => ⟨(he j hj).1.below hb, (he j hj).2⟩, ha⟩
def ecells (A : Nat → Option Addr) (n0 : Nat) (C : Nat → Nat) : Nat → List Value
  | 0 => []
  | i + 1 => ecells A n0 C i ++ [.slice (A i) n0 (C i)]
theorem ecells_len (A : Nat → Option Addr) (n0 : Nat) (C : Nat → Nat) : ∀ i, (ecells A n0 C i).length = i
  | 0 => rfl
  | i + 1 => by simp [ecells, ecells_len A n0 C i]
theorem ecells_congr {A A' : Nat → Option Addr} {n0 : Nat} {C C' : Nat → Nat} : ∀ i, (∀ j, j < i → A' j = A j ∧ C' j = C j) → ecells A' n0 C' i = ecells A n0 C i
  | 0, _ => rfl
  | i + 1, h => by
    obtain ⟨h1, h2⟩ := h i (by omega)
    simp only [ecells]
    rw [ecells_congr i (fun j hj => h j (by omega)), h1, h2]
theorem ecells_at (A : Nat → Option Addr) (n0 : Nat) (C : Nat → Nat) : ∀ i j, j < i → (ecells A n0 C i)[j]? = some (.slice (A j) n0 (C j))
  | 0, j, h => by omega
  | i + 1, j, h => by
    have hl := ecells_len A n0 C i
    by_cases e : j = i
    · subst e
      simp only [ecells]
      rw [List.getElem?_append_right (by omega), hl, Nat.sub_self]; rfl
    · simp only [ecells]
      rw [List.getElem?_append_left (by omega)]
      exact ecells_at A n0 C i j (by omega)
/-- r rows of n0 gots each. -/
def ERow (W : World) (base : Nat) (a : Option Addr) (r c n0 : Nat) (X : Nat → Nat → Int) (B : Nat → Nat → List Int) : Prop :=
  ∃ A C, W.ownsRow base 29 1 (.slice a r c) r (ecells A n0 C r) ∧ ∀ j, j < r → GOff W base (A j) n0 (C j) (X j) (B j) (a.map (·.block))
theorem ERow.nil (W : World) (base n0 : Nat) (X : Nat → Nat → Int) (B : Nat → Nat → List Int) : ERow W base none 0 0 n0 X B := ⟨fun _ => none, fun _ => 0, World.ownsRow_nil _ _ _ _, fun j hj => by omega⟩
theorem ERow.below {W W' : World} {base : Nat} {a : Option Addr} {r c n0 : Nat} {X : Nat → Nat → Int} {B : Nat → Nat → List Int} (h : ERow W base a r c n0 X B) (hb : Below W.heap.size W W') : ERow W' base a r c n0 X B := by
  obtain ⟨A, C, ho, he⟩ := h
  exact ⟨A, C, ho.kept (grown_below hb none) (by cases a <;> simp [Value.ownBlock]), fun j hj => (he j hj).below hb⟩
theorem ERow.blk {W : World} {base : Nat} {a : Option Addr} {r c n0 : Nat} {X : Nat → Nat → Int} {B : Nat → Nat → List Int} (h : ERow W base a r c n0 X B) : ∀ y, a = some y → base ≤ y.block ∧ y.block < W.heap.size := fun y hy => by
  obtain ⟨A, C, ho, he⟩ := h
  subst hy
  rcases ho.2 with ⟨e, _⟩ | ⟨g, cap, cur, e, hb, hg, _⟩
  · simp at e
  · simp at e
    obtain ⟨rfl, _⟩ := e
    exact ⟨hb, (Array.getElem?_eq_some_iff.1 hg).1⟩
theorem info_gots : (Try.prog.info? 29).map (fun i => (i.zero, i.size, i.bytes)) = some (some (Value.slice none 0 0), 1, 24) := by kernel_rfl
theorem append_erow (w : World) (ty : TypeId) (base : Nat) (a : Option Addr) (r c n0 : Nat) (X : Nat → Nat → Int) (B : Nat → Nat → List Int) (h : ERow w base a r c n0 X B) (a' : Option Addr) (c' : Nat) (hG : GRow w (w.heap.size - 0) a' n0 c' (X r) (B r) ∨ GOff w base a' n0 c' (X r) (B r) (a.map (·.block))) (hr : r ≤ 1000000) (hbase : base ≤ w.heap.size) :
    ∃ a2 c2 w2, (Builtin.append_ #[25, 25] ty #[.slice a r c, .slice (some ⟨w.heap.size, 0, none⟩) 1 1]).run Try.prog (w.alloc (.cells #[.slice a' n0 c'] 29)) = .ok (.slice a2 (r + 1) c2) w2 ∧
      ERow w2 base a2 (r + 1) c2 n0 X B ∧ Below base w w2 := by
  have hG : GOff w base a' n0 c' (X r) (B r) (a.map (·.block)) := by
    rcases hG with hG | hG
    · refine hG.off (fun k e => ?_) (by omega)
      cases a with
      | none => cases e
      | some y => have := (h.blk y rfl).2; simp at e; omega
    · exact hG
  have hab := h.blk
  obtain ⟨i0, hi0, hz0, hz1, hz2⟩ := info_parts info_gots
  obtain ⟨A, C, ho, he⟩ := h
  obtain ⟨w0, hw0⟩ : ∃ w0, w.alloc (.cells #[.slice a' n0 c'] 29) = w0 := ⟨_, rfl⟩
  have hB : Below w.heap.size w w0 := by rw [← hw0]; exact (Below.refl _ w).alloc (Nat.le_refl _) _
  have hsrc : ∀ j u, ([.slice a' n0 c'] : List Value)[j]? = some u → w0.cell? ((⟨w.heap.size, 0, none⟩ : Addr).add j) = some u := by rw [← hw0]; exact cell_one_new w _ _
  have hz0' : w0.heap.size = w.heap.size + 1 := by rw [← hw0]; simp
  have ho0 : w0.ownsRow base 29 1 (.slice a r c) r (ecells A n0 C r) := by rw [← hw0]; exact ho.alloc _
  rw [hw0]
  obtain ⟨v', w2, hrun, ho2, hg, hnil, hat⟩ := run_append_own_at (P := Try.prog) w0 base 25 ty 29 i0 _ 1 24 Try.underlying25 hi0 hz0 hz1 hz2 rfl (by decide) (.slice a r c) r _ ho0 ⟨w.heap.size, 0, none⟩ 1 1 _ rfl hsrc (by intro u hu; simp at hu; subst hu; rfl) (by unfold maxLen; omega) (by omega) (by omega)
  have hv : ∃ g c2, v' = .slice (some ⟨g, 0, none⟩) (r + 1) c2 := by
    rcases ho2.2 with ⟨rfl, e⟩ | ⟨g, cap, cur, rfl, hb, _⟩
    · omega
    · exact ⟨_, _, rfl⟩
  obtain ⟨g, c2, rfl⟩ := hv
  have hga : (Value.slice a r c).ownBlock = a.map (·.block) := by cases a <;> rfl
  rw [hga] at hg hat
  have hy : some g = a.map (·.block) ∨ ∃ k, some g = some k ∧ w.heap.size ≤ k := by
    rcases hat with e | e
    · exact .inl (by simpa [Value.ownBlock] using e)
    · exact .inr ⟨g, rfl, by simp [Value.ownBlock] at e; omega⟩
  refine ⟨some ⟨g, 0, none⟩, c2, w2, hrun, ⟨fun j => if j = r then a' else A j, fun j => if j = r then c' else C j, ?_, fun j hj => ?_⟩, ?_⟩
  · simp only [ecells, if_true]
    rw [ecells_congr (A := A) (C := C) r (fun j hj => by simp [show j ≠ r by omega])]
    exact ho2
  · by_cases e : j = r
    · subst e
      simp only [if_true]
      exact hG.next hB hg hy
    · simp only [if_neg e]
      exact (he j (by omega)).next hB hg hy
  · refine (hB.mono hbase).trans ((Below.refl _ _).grown hg (by omega) (fun k e => ?_))
    cases a with
    | none => cases e
    | some y => have := (hab y rfl).1; simp at e; omega
theorem ERow.at {W : World} {base : Nat} {a : Option Addr} {r c n0 : Nat} {X : Nat → Nat → Int} {B : Nat → Nat → List Int} (h : ERow W base a r c n0 X B) (j : Nat) (hj : j < r) (hx : ∀ i, i < n0 → 0 ≤ X j i ∧ X j i < 18446744073709551616) : ∃ g a' c' A L C, a = some ⟨g, 0, none⟩ ∧ W.cell? ⟨g, j, none⟩ = some (.slice a' n0 c') ∧ GtAt W a' n0 (X j) A L C (B j) := by
  obtain ⟨A, C, ho, he⟩ := h
  rcases ho.2 with ⟨e, e2⟩ | ⟨g, cap, cur, e, hb, hg, _⟩
  · omega
  · simp at e
    obtain ⟨rfl, rfl⟩ := e
    have hc := ho.cells (g := g) rfl _ _ (ecells_at A n0 C r j hj)
    rw [add_none, Nat.zero_add] at hc
    obtain ⟨A', L', C', hT⟩ := (he j hj).row.gtat hx
    exact ⟨g, A j, C j, A', L', C', rfl, hc, hT⟩
/-- How Each ends: so many rows, and an error. -/
def EOut (rows n0 : Nat) (X : Nat → Nat → Int) (B : Nat → Nat → List Int) (f : Int) (w : World) (e : Ending) (w' : World) : Prop :=
  ∃ ao co, e = .returned (.tuple #[.slice ao rows co, .int .i64 f]) ∧ ERow w' w.heap.size ao rows co n0 X B ∧ Below w.heap.size w w'
end Go.Proofs.Ytknpdcnhdmbbiaa

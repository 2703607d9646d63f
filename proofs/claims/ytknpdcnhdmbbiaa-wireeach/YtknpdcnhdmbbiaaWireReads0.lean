
/-
  What WireReads' walk wants.
-/
import Derived.Test.YtknpdcnhdmbbiaaWireReadG
import Derived.Test.YtknpdcnhdmbbiaaWireWrites
namespace Go.Proofs.Ytknpdcnhdmbbiaa
open Go.RowKit Go.Shelf
set_option linter.unusedVariables false
theorem gotX_bd {ks ns : Nat → Int} {l : List Int} (hl : Str.Ok l) (hlen : l.length ≤ 9223372036854775807) (i : Nat) (hno : noAt ks ns l.length i = 0) : 0 ≤ gotX ks ns l i ∧ gotX ks ns l i < 18446744073709551616 := by
  have hd : Str.Ok (l.drop (pos ks ns l.length i)) := fun j => by
    have := hl (pos ks ns l.length i + j)
    simpa [List.getD_eq_getElem?_getD, List.getElem?_drop] using this
  have hle := stepK_le hno
  unfold gotX stepX
  unfold stepK at hle
  split
  · rename_i hk
    rw [if_pos hk] at hle
    have := Num_bd _ hd (ks i).toNat (by rw [List.length_drop]; exact hle)
    refine ⟨this.1, Int.lt_of_lt_of_le this.2 ?_⟩
    rcases hk with h | h | h | h <;> rw [h] <;> decide
  · split
    · omega
    · rw [List.length_drop]; omega
theorem GRow.gtat {W : World} {base : Nat} {a : Option Addr} {i c : Nat} {xs : Nat → Int} {bs : Nat → List Int} (h : GRow W base a i c xs bs) (hx : ∀ j, j < i → 0 ≤ xs j ∧ xs j < 18446744073709551616) : ∃ A L C, GtAt W a i xs A L C bs := by
  obtain ⟨A, C, ho, he⟩ := h
  refine ⟨A, fun j => (bs j).length, C, ?_⟩
  rcases ho.2 with ⟨e, e2⟩ | ⟨g, cap, cur, e, hb, hg, _⟩
  · exact ⟨0, 0, fun j hj => by omega⟩
  · simp at e
    obtain ⟨rfl, rfl⟩ := e
    refine ⟨g, 0, fun j hj => ?_⟩
    have hc := ho.cells (g := g) rfl
    obtain ⟨c0, c1⟩ := gcells_at xs A bs C i j hj
    have d0 := hc _ _ c0
    have d1 := hc _ _ c1
    rw [add_none] at d0 d1
    exact ⟨rfl, (Array.getElem?_eq_some_iff.1 hg).1, d0, by rw [Nat.add_assoc]; exact d1, (hx j hj).1, (hx j hj).2, (he j hj).1.bat⟩
theorem parse_fn (a0 : Option Addr) (n0 c0 : Nat) (w : World) :
    Calls Try.prog 12 #[.slice a0 n0 c0] w (fun e w' => ∃ S, e = .returned (.func (.func 52) #[] #[.pointer (some ⟨S, 0, none⟩)]) ∧ w'.cell? ⟨S, 0, none⟩ = some (.slice a0 n0 c0) ∧ Below w.heap.size w w') := by
  have hmf : ∀ (fn : Fn) (first cap : Array Value) (w : World), (Instr.makeFunc fn first cap).run Try.prog w = .ok (.func fn first cap) w := fun _ _ _ _ => rfl
  go_enter Try.func12, Try.ntmps12
  go_wp2
  go_ret
  refine ⟨w.heap.size, rfl, ?_, (Below.refl _ w).alloc (Nat.le_refl _) _⟩
  rw [cell_of_row _ w.heap.size 0 _ _ _ (lit_new rfl)]; rfl
theorem GRow.nil (W : World) (base : Nat) (xs : Nat → Int) (bs : Nat → List Int) : GRow W base none 0 0 xs bs := ⟨fun _ => none, fun _ => 0, World.ownsRow_nil _ _ _ _, fun j hj => by omega⟩
/-- Read and Whole alike: so many gots, and an error. -/
def GOut (no : Nat) (xs : Nat → Int) (bs : Nat → List Int) (f : Int) (w : World) (e : Ending) (w' : World) : Prop :=
  ∃ ao co, e = .returned (.tuple #[.slice ao no co, .int .i64 f]) ∧ GRow w' w.heap.size ao no co xs bs ∧ Below w.heap.size w w'
def GOut3 (no p : Nat) (xs : Nat → Int) (bs : Nat → List Int) (f : Int) (w : World) (e : Ending) (w' : World) : Prop :=
  ∃ ao co, e = .returned (.tuple #[.slice ao no co, .int .i64 p, .int .i64 f]) ∧ GRow w' w.heap.size ao no co xs bs ∧ Below w.heap.size w w'
theorem whole_out (n : Nat) (l : List Int) (ks ns : Nat → Int) (n0 F : Nat) (hF : F ≤ n0) (hok : ∀ j, j < F → noAt ks ns n j = 0) :
    ∃ no f, no ≤ n0 ∧ (∀ j, j < no → noAt ks ns n j = 0) ∧ ∀ w e w', WholeEnd n l ks ns n0 F w e w' → GOut no (gotX ks ns l) (gotB ks ns l) f w e w' := by
  by_cases e : F = n0
  · subst e
    have hle := pos_le ks ns n F hok
    by_cases hp : pos ks ns n F = n
    · exact ⟨F, 0, Nat.le_refl _, hok, fun w e w' h => h.1 rfl hp⟩
    · refine ⟨0, 22, Nat.zero_le _, fun j hj => by omega, fun w e w' h => ?_⟩
      obtain ⟨rfl, hB⟩ := h.2.1 rfl (by omega)
      exact ⟨none, 0, rfl, GRow.nil _ _ _ _, hB⟩
  · refine ⟨0, noAt ks ns n F, Nat.zero_le _, fun j hj => by omega, fun w e w' h => ?_⟩
    obtain ⟨rfl, hB⟩ := h.2.2 (by omega)
    exact ⟨none, 0, rfl, GRow.nil _ _ _ _, hB⟩
theorem run_out (n : Nat) (l : List Int) (ks ns : Nat → Int) (n0 F : Nat) (hF : F ≤ n0) (hok : ∀ j, j < F → noAt ks ns n j = 0) :
    ∃ no p f, no ≤ n0 ∧ p ≤ n ∧ (∀ j, j < no → noAt ks ns n j = 0) ∧ ∀ w e w', RunEnd n l ks ns n0 F w e w' → GOut3 no p (gotX ks ns l) (gotB ks ns l) f w e w' := by
  by_cases e : F = n0
  · subst e
    exact ⟨F, pos ks ns n F, 0, Nat.le_refl _, pos_le ks ns n F hok, hok, fun w e w' h => h.1 rfl⟩
  · refine ⟨0, 0, noAt ks ns n F, Nat.zero_le _, Nat.zero_le _, fun j hj => by omega, fun w e w' h => ?_⟩
    obtain ⟨rfl, hB⟩ := h.2 (by omega)
    exact ⟨none, 0, rfl, GRow.nil _ _ _ _, hB⟩
end Go.Proofs.Ytknpdcnhdmbbiaa


/-
  Slices of slices of bytes as they come in; slices appended (as IbFdRows: the two do not stand side by side).
-/
import Derived.Test.YtedhmoihlfjbdaaPaIter
namespace Go.Proofs.Ytedhmoihlfjbdaa
open Go.RowKit Go.Shelf
set_option linter.unusedVariables false
/-- A slice of slices of numbers that came in. -/
def RowsIn (k : IntKind) (w : World) (a : Option Addr) (len cap : Nat) (A : Nat → Option Addr) (L C : Nat → Nat) (Z : Nat → List Int) : Prop :=
  (a = none ∧ len = 0 ∧ cap = 0) ∨
  ∃ x, a = some x ∧ len ≤ cap ∧ cap ≤ maxLen ∧ ∀ r, r < cap → w.cell? (x.add r) = some (.slice (A r) (L r) (C r)) ∧ L r ≤ C r ∧ C r ≤ maxLen ∧ (Z r).length = C r ∧ (∀ n ∈ Z r, (Lit.int k n).wf = true) ∧ (A r = none → C r = 0) ∧
    ∀ a', A r = some a' → ∀ c, c < C r → w.cell? (a'.add c) = some (.int k ((Z r).getD c 0))
theorem RowsIn.row {w : World} {a : Option Addr} {len cap : Nat} {A : Nat → Option Addr} {L C : Nat → Nat} {Z : Nat → List Int} (h : RowsIn .u8 w a len cap A L C Z) :
    len ≤ cap ∧ len ≤ maxLen ∧ ∃ b o, ∀ k, k < len → a = some ⟨b, o, none⟩ ∧ b < w.heap.size ∧ w.cell? ⟨b, o + k, none⟩ = some (.slice (A k) (L k) (C k)) ∧ BAt w (A k) (L k) ((Z k).take (L k)) ∧ L k ≤ C k := by
  rcases h with ⟨rfl, rfl, rfl⟩ | ⟨⟨b, o, sp⟩, rfl, hl, hm, hr⟩
  · exact ⟨Nat.le_refl _, Nat.zero_le _, 0, 0, fun k hk => by omega⟩
  · refine ⟨hl, by omega, b, o, fun k hk => ?_⟩
    obtain ⟨h1, h2, h3, h4, h5, h6, h7⟩ := hr k (by omega)
    have hs : sp = none := by
      have := World.cell?_spot (hr 0 (by omega)).1; simpa [Addr.add] using this
    subst hs
    rw [show (Addr.add ⟨b, o, none⟩ k) = ⟨b, o + k, none⟩ from by unfold Addr.add; split <;> simp_all] at h1
    refine ⟨rfl, World.block_lt_of_cell? w _ h1, h1, ?_, h2⟩
    have hrow : IntRow .u8 w (A k) (L k) (C k) (Z k) := by
      cases hA : A k with
      | none =>
        have := h6 hA
        exact .inl ⟨rfl, by omega, this, List.eq_nil_of_length_eq_zero (by omega)⟩
      | some a' => exact .inr ⟨a', rfl, h2, h3, h4, fun i hi => h7 a' hA i (by omega), h5⟩
    exact hrow.bat.1
theorem info_sl : (Try.prog.info? 26).map (fun i => (i.zero, i.size, i.bytes)) = some (some (Value.slice none 0 0), 1, 24) := by kernel_rfl
/-- append(x, y...) of slices of slices, x in a row of its own. -/
theorem append_slices (w : World) (ty : TypeId) (base : Nat) (a : Option Addr) (n c : Nat) (xs : List Value) (h : w.ownsRow base 26 1 (.slice a n c) n xs) (a2 : Option Addr) (m c2 : Nat) (news : List Value) (hl : news.length = m)
    (hsrc : 0 < m → ∃ x, a2 = some x ∧ ∀ j u, news[j]? = some u → w.cell? (x.add j) = some u) (h1 : ∀ u ∈ news, u.oneCell' = true) (hlim : n + m ≤ 5000000000) (hbase : base ≤ w.heap.size) :
    ∃ a' c' w', (Builtin.append_ #[22, 22] ty #[.slice a n c, .slice a2 m c2]).run Try.prog w = .ok (.slice a' (n + m) c') w' ∧
      w'.ownsRow base 26 1 (.slice a' (n + m) c') (n + m) (xs ++ news) ∧ w.grownBy w' (a.map (·.block)) ∧ (∀ x, a' = some x → (∃ y, a = some y ∧ x.block = y.block) ∨ x.block = w.heap.size) := by
  obtain ⟨i0, hi0, hz0, hz1, hz2⟩ := info_parts info_sl
  cases a2 with
  | none =>
    have h0 : m = 0 := by
      rcases Nat.eq_zero_or_pos m with h' | h'
      · exact h'
      · obtain ⟨x, e, _⟩ := hsrc h'; cases e
    subst h0
    have hl0 : news = [] := List.eq_nil_of_length_eq_zero hl
    subst hl0
    rw [List.append_nil]
    refine ⟨a, c, w, ?_, h, grown_refl w _, fun x hx => .inl ⟨x, hx, rfl⟩⟩
    have hnc : n ≤ c := by
      rcases h.2 with ⟨hv, rfl⟩ | ⟨g, cap, cur, hv, _, _, hnc, _⟩
      · exact Nat.zero_le _
      · simp only [Value.slice.injEq, true_and] at hv; omega
    cases a <;> simp [Builtin.append_, run_underlying Try.underlying22, sizeOf, typeInfo, hi0, Builtin.lenOf, Builtin.firstCells, hnc, storeCells]
  | some x =>
    have hsrc' : ∀ j u, news[j]? = some u → w.cell? (x.add j) = some u := fun j u hu => by
      have hj : j < news.length := (List.getElem?_eq_some_iff.1 hu).1
      obtain ⟨y, e, hs⟩ := hsrc (by omega)
      cases e; exact hs j u hu
    obtain ⟨v', w', hr, ho, hg, hnil, hat⟩ := run_append_own_at (P := Try.prog) w base 22 ty 26 i0 (.slice none 0 0) 1 24 Try.underlying22 hi0 hz0 hz1 hz2 rfl (by decide) (.slice a n c) n _ h x m c2 news (by omega) hsrc' h1 (by unfold maxLen; omega) (by omega) hbase
    have hv : ∃ a' c', v' = .slice a' (n + m) c' := by
      rcases ho.2 with ⟨rfl, e⟩ | ⟨g, cap, cur, rfl, _⟩
      · exact ⟨none, 0, by rw [e]⟩
      · exact ⟨_, _, rfl⟩
    obtain ⟨a', c', rfl⟩ := hv
    have eb : ∀ (y : Option Addr) (k d : Nat), (Value.slice y k d).ownBlock = y.map (·.block) := fun y k d => by cases y <;> rfl
    rw [eb] at hg
    rw [eb, eb] at hat
    refine ⟨a', c', w', hr, ho, hg, fun y hy => ?_⟩
    subst hy
    rcases hat with e | e
    · cases a with
      | none => cases e
      | some z => exact .inl ⟨z, rfl, by simpa using e⟩
    · exact .inr (by simpa using e)
/-- One slice more. -/
theorem append_slice1 (w : World) (ty : TypeId) (base : Nat) (a : Option Addr) (n c : Nat) (xs : List Value) (h : w.ownsRow base 26 1 (.slice a n c) n xs) (b : Option Addr) (m d : Nat) (hlim : n ≤ 1000000) (hbase : base ≤ w.heap.size) :
    ∃ a' c' w', (Builtin.append_ #[22, 22] ty #[.slice a n c, .slice (some ⟨w.heap.size, 0, none⟩) 1 1]).run Try.prog (w.alloc (.cells #[.slice b m d] 26)) = .ok (.slice a' (n + 1) c') w' ∧
      w'.ownsRow base 26 1 (.slice a' (n + 1) c') (n + 1) (xs ++ [.slice b m d]) ∧ (w.alloc (.cells #[.slice b m d] 26)).grownBy w' (a.map (·.block)) ∧ (∀ x, a' = some x → (∃ y, a = some y ∧ x.block = y.block) ∨ w.heap.size < x.block) := by
  obtain ⟨w0, hw0⟩ : ∃ w0, w.alloc (.cells #[.slice b m d] 26) = w0 := ⟨_, rfl⟩
  have hz : w0.heap.size = w.heap.size + 1 := by rw [← hw0]; simp
  have hnew : w0.heap[w.heap.size]? = some (.cells #[.slice b m d] 26 (0, 0)) := by rw [← hw0]; exact lit_new rfl
  have ho : w0.ownsRow base 26 1 (.slice a n c) n xs := by rw [← hw0]; exact h.alloc _
  rw [hw0]
  obtain ⟨a', c', w', h1, h2, h3, h4⟩ := append_slices w0 ty base a n c xs ho (some ⟨w.heap.size, 0, none⟩) 1 1 [.slice b m d] rfl (fun _ => ⟨_, rfl, fun j u hu => by
    match j with
    | 0 =>
      rw [show (Addr.add ⟨w.heap.size, 0, none⟩ 0) = ⟨w.heap.size, 0, none⟩ from rfl, cell_of_row w0 _ 0 _ _ _ hnew]
      simpa using hu
    | j + 1 => simp at hu⟩) (fun u hu => by simp at hu; subst hu; rfl) (by omega) (by omega)
  refine ⟨a', c', w', h1, h2, h3, fun x hx => ?_⟩
  rcases h4 x hx with e | e
  · exact .inl e
  · right; omega
end Go.Proofs.Ytedhmoihlfjbdaa

/-
  Rows of bytes: their exclusive or in any order; slices of slices that came in, or that the law itself makes.
-/
import Derived.Test.YthfiahdeggmmcaaStrSmall
namespace Go.Proofs.Ythfiahdeggmmcaa
open Go.RowKit Go.Shelf
set_option linter.unusedVariables false
theorem Str.all_perm {ls ms : List (List Int)} (h : ls.Perm ms) (s : List Int) : Str.all s ls = Str.all s ms :=
  h.foldl_eq' (fun x _ y _ z => by rw [Str.xor_assoc, Str.xor_assoc, Str.xor_comm x y]) s
theorem Str.all_from : ∀ (ls : List (List Int)) (s : List Int), Str.Ok s → (∀ l ∈ ls, Str.Ok l) → Str.all s ls = Str.xor s (Str.all [] ls)
  | [], s, h, _ => by show s = Str.xor s []; rw [Str.xor_nil h]
  | l :: ls, s, h, hl => by
    have hl1 := hl l (by simp)
    have hl2 : ∀ x ∈ ls, Str.Ok x := fun x hx => hl x (by simp [hx])
    show Str.all (Str.xor s l) ls = Str.xor s (Str.all (Str.xor [] l) ls)
    rw [Str.all_from ls (Str.xor s l) (h.xor hl1) hl2, Str.all_from ls (Str.xor [] l) (Str.ok_nil.xor hl1) hl2, Str.nil_xor hl1, Str.xor_assoc]
theorem Str.all_len : ∀ (ls : List (List Int)) (s : List Int) (N : Nat), s.length ≤ N → (∀ l ∈ ls, l.length ≤ N) → (Str.all s ls).length ≤ N
  | [], s, N, h, _ => h
  | l :: ls, s, N, h, hl => Str.all_len ls (Str.xor s l) N (by rw [Str.xor_len]; have := hl l (by simp); omega) (fun x hx => hl x (by simp [hx]))
/-- One row is what all, and all the others, come to, cut to its length. -/
theorem Str.all_lost (ls : List (List Int)) (k : Nat) (hk : k < ls.length) (hok : ∀ l ∈ ls, Str.Ok l) :
    Str.fit (Str.xor (Str.all [] ls) (Str.all [] (ls.take k ++ ls.drop (k + 1)))) (ls.getD k []).length = ls.getD k [] := by
  have hr : ls.getD k [] = ls[k] := by rw [List.getD_eq_getElem?_getD, List.getElem?_eq_getElem hk]; rfl
  have hro : Str.Ok (ls.getD k []) := by rw [hr]; exact hok _ (List.getElem_mem hk)
  have hoth : ∀ l ∈ ls.take k ++ ls.drop (k + 1), Str.Ok l := fun l hl => by
    rcases List.mem_append.1 hl with h | h
    · exact hok l (List.mem_of_mem_take h)
    · exact hok l (List.mem_of_mem_drop h)
  have hp : ls.Perm (ls.getD k [] :: (ls.take k ++ ls.drop (k + 1))) := by
    have e : ls = ls.take k ++ ls[k] :: ls.drop (k + 1) := by rw [List.getElem_cons_drop hk, List.take_append_drop]
    rw [hr]
    have := List.perm_middle (a := ls[k]) (l₁ := ls.take k) (l₂ := ls.drop (k + 1))
    rwa [← e] at this
  have e1 : Str.all [] ls = Str.xor (ls.getD k []) (Str.all [] (ls.take k ++ ls.drop (k + 1))) := by
    rw [Str.all_perm hp]
    show Str.all (Str.xor [] (ls.getD k [])) _ = _
    rw [Str.nil_xor hro, Str.all_from _ _ hro hoth]
  generalize Str.all [] (ls.take k ++ ls.drop (k + 1)) = o at e1 ⊢
  generalize ls.getD k [] = r at e1 hro ⊢
  rw [e1]
  refine getD_ext (Str.fit_len _ _) fun i hi => ?_
  rw [Str.fit_len] at hi
  rw [Str.fit_at, if_pos hi, Str.xor_at, Str.xor_at, Str.bx_assoc, Str.bx_self, Str.bx_zero (hro i).1]
theorem gap_twice (a b : List Int) (ha : Str.Ok a) : Str.gap (Str.xor (Str.xor a b) b) a = -1 :=
  Str.gap_none fun j => by rw [Str.xor_at, Str.xor_at, Str.bx_assoc, Str.bx_self, Str.bx_zero (ha j).1]
theorem gap_self (a : List Int) : Str.gap (Str.xor a a) [] = -1 :=
  Str.gap_none fun j => by rw [Str.xor_at, Str.bx_self, getD_out (by simp)]
/-- A slice of slices of numbers that came in. -/
def RowsIn (k : IntKind) (w : World) (a : Option Addr) (len cap : Nat) (A : Nat → Option Addr) (L C : Nat → Nat) (Z : Nat → List Int) : Prop :=
  (a = none ∧ len = 0 ∧ cap = 0) ∨
  ∃ x, a = some x ∧ len ≤ cap ∧ cap ≤ maxLen ∧ ∀ r, r < cap → w.cell? (x.add r) = some (.slice (A r) (L r) (C r)) ∧ L r ≤ C r ∧ C r ≤ maxLen ∧ (Z r).length = C r ∧ (∀ n ∈ Z r, (Lit.int k n).wf = true) ∧ (A r = none → C r = 0) ∧
    ∀ a', A r = some a' → ∀ c, c < C r → w.cell? (a'.add c) = some (.int k ((Z r).getD c 0))
def rowsOf (len : Nat) (L : Nat → Nat) (Z : Nat → List Int) : List (List Int) := (List.range len).map fun r => (Z r).take (L r)
theorem rowsOf_at {len : Nat} {L : Nat → Nat} {Z : Nat → List Int} {k : Nat} (hk : k < len) : (rowsOf len L Z).getD k [] = (Z k).take (L k) := by
  simp [rowsOf, List.getD_eq_getElem?_getD, hk]
theorem RowsIn.row {w : World} {a : Option Addr} {len cap : Nat} {A : Nat → Option Addr} {L C : Nat → Nat} {Z : Nat → List Int} (h : RowsIn .u8 w a len cap A L C Z) :
    len ≤ cap ∧ len ≤ maxLen ∧ ∃ b o, ∀ k, k < len → a = some ⟨b, o, none⟩ ∧ b < w.heap.size ∧ w.cell? ⟨b, o + k, none⟩ = some (.slice (A k) (L k) (C k)) ∧ BAt w (A k) (L k) ((Z k).take (L k)) ∧ L k ≤ C k := by
  rcases h with ⟨rfl, rfl, rfl⟩ | ⟨⟨b, o, sp⟩, rfl, hl, hm, hr⟩
  · exact ⟨Nat.le_refl _, Nat.zero_le _, 0, 0, fun k hk => by omega⟩
  · refine ⟨hl, by omega, b, o, fun k hk => ?_⟩
    obtain ⟨h1, h2, h3, h4, h5, h6, h7⟩ := hr k (by omega)
    have hs : sp = none := by
      have := World.cell?_spot (hr 0 (by omega)).1; simpa [Addr.add] using this
    subst hs
    rw [show (Addr.add ⟨b, o, none⟩ k) = ⟨b, o + k, none⟩ from by unfold Addr.add; split <;> simp_all] at h1
    refine ⟨rfl, World.block_lt_of_cell? w _ h1, h1, ?_, h2⟩
    have hrow : IntRow .u8 w (A k) (L k) (C k) (Z k) := by
      cases hA : A k with
      | none =>
        have := h6 hA
        exact .inl ⟨rfl, by omega, this, List.eq_nil_of_length_eq_zero (by omega)⟩
      | some a' => exact .inr ⟨a', rfl, h2, h3, h4, fun i hi => h7 a' hA i (by omega), h5⟩
    exact hrow.bat.1
theorem RowsIn.vat {w : World} {a : Option Addr} {len cap : Nat} {A : Nat → Option Addr} {L C : Nat → Nat} {Z : Nat → List Int} (h : RowsIn .u8 w a len cap A L C Z) : VAt w a len A L C := by
  obtain ⟨_, _, b, o, hr⟩ := h.row
  exact ⟨b, o, fun k hk => ⟨(hr k hk).1, (hr k hk).2.1, (hr k hk).2.2.1, (hr k hk).2.2.2.1.lim⟩⟩
/-- The rows as the laws go on with them: few, and short. -/
structure RIn (W : World) (a : Option Addr) (len : Nat) (A : Nat → Option Addr) (L C : Nat → Nat) (ls : List (List Int)) : Prop where
  count : ls.length = len
  row : ∃ b o, ∀ k, k < len → a = some ⟨b, o, none⟩ ∧ b < W.heap.size ∧ W.cell? ⟨b, o + k, none⟩ = some (.slice (A k) (L k) (C k))
  each : ∀ k, k < len → BAt W (A k) (L k) (ls.getD k []) ∧ L k ≤ 500
theorem RIn.below {W W' : World} {a : Option Addr} {len : Nat} {A : Nat → Option Addr} {L C : Nat → Nat} {ls : List (List Int)} (h : RIn W a len A L C ls) (hb : Below W.heap.size W W') : RIn W' a len A L C ls := by
  obtain ⟨b, o, hr⟩ := h.row
  refine ⟨h.count, ⟨b, o, fun k hk => ?_⟩, fun k hk => ⟨(h.each k hk).1.below hb, (h.each k hk).2⟩⟩
  obtain ⟨h1, h2, h3⟩ := hr k hk
  exact ⟨h1, by have := hb.size; omega, (hb.cell (p := ⟨b, o + k, none⟩) h2).trans h3⟩
theorem RIn.rat {W : World} {a : Option Addr} {len : Nat} {A : Nat → Option Addr} {L C : Nat → Nat} {ls : List (List Int)} (h : RIn W a len A L C ls) : RAt W a len ls := by
  obtain ⟨b, o, hr⟩ := h.row
  refine ⟨h.count, b, o, A, L, C, fun k hk => ?_⟩
  obtain ⟨h1, h2, h3⟩ := hr k hk
  obtain ⟨h4, h5⟩ := h.each k hk
  exact ⟨h1, h2, h3, h4, by omega⟩
theorem RIn.ok {W : World} {a : Option Addr} {len : Nat} {A : Nat → Option Addr} {L C : Nat → Nat} {ls : List (List Int)} (h : RIn W a len A L C ls) : ∀ l ∈ ls, Str.Ok l := fun l hl => by
  obtain ⟨k, hk, rfl⟩ := List.getElem_of_mem hl
  have := (h.each k (by rw [← h.count]; exact hk)).1.ok
  rwa [List.getD_eq_getElem?_getD, List.getElem?_eq_getElem hk] at this
theorem RIn.short {W : World} {a : Option Addr} {len : Nat} {A : Nat → Option Addr} {L C : Nat → Nat} {ls : List (List Int)} (h : RIn W a len A L C ls) : ∀ l ∈ ls, l.length ≤ 500 := fun l hl => by
  obtain ⟨k, hk, rfl⟩ := List.getElem_of_mem hl
  obtain ⟨h1, h2⟩ := h.each k (by rw [← h.count]; exact hk)
  have := h1.len
  rw [List.getD_eq_getElem?_getD, List.getElem?_eq_getElem hk] at this
  simp only [Option.getD_some] at this
  omega
theorem RowsIn.rin {w : World} {a : Option Addr} {len cap : Nat} {A : Nat → Option Addr} {L C : Nat → Nat} {Z : Nat → List Int} (h : RowsIn .u8 w a len cap A L C Z) (hs : ∀ k, k < len → L k ≤ 500) : RIn w a len A L C (rowsOf len L Z) := by
  obtain ⟨_, _, b, o, hr⟩ := h.row
  exact ⟨by simp [rowsOf], ⟨b, o, fun k hk => ⟨(hr k hk).1, (hr k hk).2.1, (hr k hk).2.2.1⟩⟩, fun k hk => ⟨by rw [rowsOf_at hk]; exact (hr k hk).2.2.2.1, hs k hk⟩⟩
theorem info_sl : (Try.prog.info? 22).map (fun i => (i.zero, i.size, i.bytes)) = some (some (Value.slice none 0 0), 1, 24) := by kernel_rfl
/-- append(x, y...) of slices of slices, x in a row of its own. -/
theorem append_slices (w : World) (ty : TypeId) (base : Nat) (a : Option Addr) (n c : Nat) (xs : List Value) (h : w.ownsRow base 22 1 (.slice a n c) n xs) (a2 : Option Addr) (m c2 : Nat) (news : List Value) (hl : news.length = m)
    (hsrc : 0 < m → ∃ x, a2 = some x ∧ ∀ j u, news[j]? = some u → w.cell? (x.add j) = some u) (h1 : ∀ u ∈ news, u.oneCell' = true) (hlim : n + m ≤ 5000000000) (hbase : base ≤ w.heap.size) :
    ∃ a' c' w', (Builtin.append_ #[61, 61] ty #[.slice a n c, .slice a2 m c2]).run Try.prog w = .ok (.slice a' (n + m) c') w' ∧
      w'.ownsRow base 22 1 (.slice a' (n + m) c') (n + m) (xs ++ news) ∧ w.grownBy w' (a.map (·.block)) ∧ (∀ x, a' = some x → (∃ y, a = some y ∧ x.block = y.block) ∨ x.block = w.heap.size) := by
  obtain ⟨i0, hi0, hz0, hz1, hz2⟩ := info_parts info_sl
  cases a2 with
  | none =>
    have h0 : m = 0 := by
      rcases Nat.eq_zero_or_pos m with h' | h'
      · exact h'
      · obtain ⟨x, e, _⟩ := hsrc h'; cases e
    subst h0
    have hl0 : news = [] := List.eq_nil_of_length_eq_zero hl
    subst hl0
    rw [List.append_nil]
    refine ⟨a, c, w, ?_, h, grown_refl w _, fun x hx => .inl ⟨x, hx, rfl⟩⟩
    have hnc : n ≤ c := by
      rcases h.2 with ⟨hv, rfl⟩ | ⟨g, cap, cur, hv, _, _, hnc, _⟩
      · exact Nat.zero_le _
      · simp only [Value.slice.injEq, true_and] at hv; omega
    cases a <;> simp [Builtin.append_, run_underlying Try.underlying61, sizeOf, typeInfo, hi0, Builtin.lenOf, Builtin.firstCells, hnc, storeCells]
  | some x =>
    have hsrc' : ∀ j u, news[j]? = some u → w.cell? (x.add j) = some u := fun j u hu => by
      have hj : j < news.length := (List.getElem?_eq_some_iff.1 hu).1
      obtain ⟨y, e, hs⟩ := hsrc (by omega)
      cases e; exact hs j u hu
    obtain ⟨v', w', hr, ho, hg, hnil, hat⟩ := run_append_own_at (P := Try.prog) w base 61 ty 22 i0 (.slice none 0 0) 1 24 Try.underlying61 hi0 hz0 hz1 hz2 rfl (by decide) (.slice a n c) n _ h x m c2 news (by omega) hsrc' h1 (by unfold maxLen; omega) (by omega) hbase
    have hv : ∃ a' c', v' = .slice a' (n + m) c' := by
      rcases ho.2 with ⟨rfl, e⟩ | ⟨g, cap, cur, rfl, _⟩
      · exact ⟨none, 0, by rw [e]⟩
      · exact ⟨_, _, rfl⟩
    obtain ⟨a', c', rfl⟩ := hv
    have eb : ∀ (y : Option Addr) (k d : Nat), (Value.slice y k d).ownBlock = y.map (·.block) := fun y k d => by cases y <;> rfl
    rw [eb] at hg
    rw [eb, eb] at hat
    refine ⟨a', c', w', hr, ho, hg, fun y hy => ?_⟩
    subst hy
    rcases hat with e | e
    · cases a with
      | none => cases e
      | some z => exact .inl ⟨z, rfl, by simpa using e⟩
    · exact .inr (by simpa using e)
/-- A row of slices of the law's own reads as the bytes that they read as. -/
theorem rat_own {W : World} {base : Nat} {a : Option Addr} {n c : Nat} {A : Nat → Option Addr} {L C : Nat → Nat} {ls : List (List Int)} (h : W.ownsRow base 22 1 (.slice a n c) n ((List.range n).map fun k => .slice (A k) (L k) (C k))) (hc : ls.length = n) (he : ∀ k, k < n → BAt W (A k) (L k) (ls.getD k []) ∧ L k ≤ 500) : RAt W a n ls := by
  rcases h.2 with ⟨hv, h0⟩ | ⟨g, cap, cur, hv, hb, hg, h1, h2, h3, h4⟩
  · exact ⟨hc, 0, 0, A, L, C, fun k hk => by omega⟩
  · simp only [Value.slice.injEq, true_and] at hv
    obtain ⟨rfl, rfl⟩ := hv
    refine ⟨hc, g, 0, A, L, C, fun k hk => ⟨rfl, (Array.getElem?_eq_some_iff.1 hg).1, ?_, (he k hk).1, by have := (he k hk).2; omega⟩⟩
    have := h.cellAt k (by omega)
    rw [Nat.zero_add, this]
    simp [hk]
end Go.Proofs.Ythfiahdeggmmcaa

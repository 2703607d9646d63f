
/-
  wire.Part and wire.Read over parse's function: as the document's Run and Whole.
-/
import Derived.Test.YtknpdcnhdmbbiaaWireWhole
namespace Go.Proofs.Ytknpdcnhdmbbiaa
open Go.RowKit Go.Shelf
set_option linter.unusedVariables false
/-- parse's function over steps that lie in memory, in the world in which Part calls it. -/
theorem parse_at (a : Option Addr) (n c : Nat) (l : List Int) (S : Nat) (a0 : Option Addr) (n0 c0 : Nat) (ks ns : Nat → Int) (F : Nat) (w : World) (hb : BAt w a n l) (hc : n ≤ c) (hs : StAt w a0 n0 ks ns) (hS : w.cell? ⟨S, 0, none⟩ = some (.slice a0 n0 c0)) (hn : n0 ≤ 100) (hlim : n ≤ 140737488355327)
    (hF : F ≤ n0) (hok : ∀ j, j < F → noAt ks ns n j = 0) (hbad : F < n0 → noAt ks ns n F ≠ 0) :
    Calls Try.prog 52 (#[.pointer (some ⟨(runW w).heap.size + 1, 0, none⟩)] ++ #[.pointer (some ⟨S, 0, none⟩)]) (attW (runW w) w.heap.size a n c) (ParseEnd ((runW w).heap.size + 1) w.heap.size n l ks ns n0 F (attW (runW w) w.heap.size a n c)) := by
  have hSl : S < w.heap.size := World.block_lt_of_cell? w _ hS
  have hB := part_attW_below w a n c
  refine parse_any _ _ a n c l S a0 n0 c0 ks ns F _ (part_rd w a n c l hb hc) hn (by omega) (fun W hg => ?_) hF hok hbad
  have hz := hB.size
  have hBW : Below w.heap.size w W := hB.grown hg (by have := runW_size w; omega) (fun k e => by cases e; have := runW_size w; omega)
  exact ⟨hs.below hBW, (hBW.cell (p := ⟨S, 0, none⟩) hSl).trans hS, by omega⟩
theorem parse_nil (S : Nat) (w : World) : (binOp .neq 30 (.func (.func 52) #[] #[.pointer (some ⟨S, 0, none⟩)]) .nilFunc).run Try.prog w = .ok (.bool true) w := by kernel_rfl
theorem parse_ent (args : Array Value) (w : World) : (callFunc 52 args).run Try.prog w = .ok (.enter 52 args) w := by kernel_rfl
theorem attW_size (w : World) (U : Nat) (a : Option Addr) (n c : Nat) : (attW w U a n c).heap.size = w.heap.size + 2 := by simp [attW]
theorem GRow.mono {W : World} {base base' : Nat} {a : Option Addr} {i c : Nat} {xs : Nat → Int} {bs : Nat → List Int} (h : GRow W base a i c xs bs) (hb : base' ≤ base) : GRow W base' a i c xs bs := by
  obtain ⟨A, C, ho, he⟩ := h
  refine ⟨A, C, ⟨ho.1, ?_⟩, fun j hj => ⟨(he j hj).1.mono hb, (he j hj).2⟩⟩
  rcases ho.2 with h | ⟨g, cap, cur, e, h1, h2⟩
  · exact .inl h
  · exact .inr ⟨g, cap, cur, e, Nat.le_trans hb h1, h2⟩
theorem gpart_any (a : Option Addr) (n c : Nat) (l : List Int) (S : Nat) (a0 : Option Addr) (n0 c0 : Nat) (ks ns : Nat → Int) (F : Nat) (w : World) (hb : BAt w a n l) (hc : n ≤ c) (hs : StAt w a0 n0 ks ns) (hS : w.cell? ⟨S, 0, none⟩ = some (.slice a0 n0 c0)) (hn : n0 ≤ 100) (hlim : n ≤ 140737488355327)
    (hF : F ≤ n0) (hok : ∀ j, j < F → noAt ks ns n j = 0) (hbad : F < n0 → noAt ks ns n F ≠ 0) :
    Calls Try.prog 19 #[.slice a n c, .func (.func 52) #[] #[.pointer (some ⟨S, 0, none⟩)]] w (RunEnd n l ks ns n0 F w) := by
  have hp := parse_at a n c l S a0 n0 c0 ks ns F w hb hc hs hS hn hlim hF hok hbad
  by_cases e : F = n0
  · subst e
    have hle := pos_le ks ns n F hok
    refine (part_ok_got a n c _ _ (n - pos ks ns n F) (pos ks ns n F) (l.drop (pos ks ns n F)) _ w (by omega) (by omega) ⟨parse_nil S, parse_ent, hp.mono fun e w' h => h.1 rfl⟩).mono ?_
    rintro e w2 ⟨v, w1, rfl, ⟨ao, co, rfl, hG⟩, hg, hB, hz⟩
    refine ⟨fun _ => ⟨ao, co, rfl, ?_, hB⟩, fun h => by omega⟩
    have h1 := attW_size (runW w) w.heap.size a n c
    have h2 := runW_size w
    exact (hG.kept hg (by omega)).mono (by omega)
  · have hlt : F < n0 := by omega
    refine (part_fail_got a n c _ _ (noAt ks ns n F) w (by simpa using hbad hlt) ⟨parse_nil S, parse_ent, hp.mono fun e w' h => h.2 hlt⟩).mono ?_
    rintro e w2 ⟨rfl, hB⟩
    exact ⟨fun h => by omega, fun _ => ⟨rfl, hB⟩⟩
theorem gread_any (a : Option Addr) (n c : Nat) (l : List Int) (S : Nat) (a0 : Option Addr) (n0 c0 : Nat) (ks ns : Nat → Int) (F : Nat) (w : World) (hb : BAt w a n l) (hc : n ≤ c) (hs : StAt w a0 n0 ks ns) (hS : w.cell? ⟨S, 0, none⟩ = some (.slice a0 n0 c0)) (hn : n0 ≤ 100) (hlim : n ≤ 140737488355327)
    (hF : F ≤ n0) (hok : ∀ j, j < F → noAt ks ns n j = 0) (hbad : F < n0 → noAt ks ns n F ≠ 0) :
    Calls Try.prog 17 #[.slice a n c, .func (.func 52) #[] #[.pointer (some ⟨S, 0, none⟩)]] w (WholeEnd n l ks ns n0 F w) := by
  have hp := parse_at a n c l S a0 n0 c0 ks ns F w hb hc hs hS hn hlim hF hok hbad
  by_cases e : F = n0
  · subst e
    have hle := pos_le ks ns n F hok
    by_cases hpn : pos ks ns n F = n
    · have hp0 : n - pos ks ns n F = 0 := by omega
      refine (read_ok_got a n c _ _ (l.drop (pos ks ns n F)) _ w (by omega) ⟨parse_nil S, parse_ent, hp.mono fun e w' h => by have := h.1 rfl; rw [hp0] at this; exact this⟩).mono ?_
      rintro e w2 ⟨v, w1, rfl, ⟨ao, co, rfl, hG⟩, hg, hB, hz⟩
      refine ⟨fun _ _ => ⟨ao, co, rfl, ?_, hB⟩, fun _ h => by omega, fun h => by omega⟩
      have h1 := attW_size (runW w) w.heap.size a n c
      have h2 := runW_size w
      exact (hG.kept hg (by omega)).mono (by omega)
    · refine (read_more_got a n c _ _ (n - pos ks ns n F) (l.drop (pos ks ns n F)) _ w (by omega) (by omega) (by omega) ⟨parse_nil S, parse_ent, hp.mono fun e w' h => h.1 rfl⟩).mono ?_
      rintro e w2 ⟨rfl, hB⟩
      exact ⟨fun _ h => by omega, fun _ _ => ⟨rfl, hB⟩, fun h => by omega⟩
  · have hlt : F < n0 := by omega
    refine (read_fail_got a n c _ _ (noAt ks ns n F) w (by simpa using hbad hlt) ⟨parse_nil S, parse_ent, hp.mono fun e w' h => h.2 hlt⟩).mono ?_
    rintro e w2 ⟨rfl, hB⟩
    exact ⟨fun h => by omega, fun h => by omega, fun _ => ⟨rfl, hB⟩⟩
end Go.Proofs.Ytknpdcnhdmbbiaa

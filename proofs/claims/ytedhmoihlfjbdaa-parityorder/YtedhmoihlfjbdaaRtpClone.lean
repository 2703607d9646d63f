
/-
  rtp.Clone.
-/
import Derived.Test.YtedhmoihlfjbdaaRtpParse5
namespace Go.Proofs.Ytedhmoihlfjbdaa
open Go.RowKit Go.Shelf
set_option linter.unusedVariables false
theorem one_u32 (l : List Int) : ∀ u ∈ l.map (Value.int .u32), u.oneCell' = true := by
  intro u hu; obtain ⟨x, _, rfl⟩ := List.mem_map.1 hu; rfl
theorem append_copyL (w : World) (ty : TypeId) (a : Option Addr) (n c : Nat) (l : List Int) (h : LgAt w a n l) (hlim : n ≤ 1000000000000) :
    ∃ a' c' w', (Builtin.append_ #[69, 69] ty #[.slice none 0 0, .slice a n c]).run Try.prog w = .ok (.slice a' n c') w' ∧ OwnL w' w.heap.size a' n c' l ∧ Below w.heap.size w w' := by
  obtain ⟨i0, hi0, hz0, hz1, hz2⟩ := info_parts info_u32
  obtain ⟨hlen, b, o, hr⟩ := h
  by_cases h0 : n = 0
  · subst h0
    have hl0 : l = [] := List.eq_nil_of_length_eq_zero hlen
    subst hl0
    refine ⟨none, 0, w, ?_, OwnL.nil _ _, Below.refl _ _⟩
    simp [Builtin.append_, run_underlying Try.underlying69, sizeOf, typeInfo, hi0, Builtin.lenOf, Builtin.firstCells]
    cases a <;> simp [loadCells, loadCellsFrom]
  · obtain ⟨rfl, _⟩ := hr 0 (by omega)
    have hsrc : ∀ j u, (l.map (Value.int .u32))[j]? = some u → w.cell? (Addr.add ⟨b, o, none⟩ j) = some u := fun j u hu => by
      have hj : j < l.length := by have := (List.getElem?_eq_some_iff.1 hu).1; simpa using this
      obtain ⟨_, _, hc, _⟩ := hr j (by omega)
      have e : (Addr.add ⟨b, o, none⟩ j) = ⟨b, o + j, none⟩ := by unfold Addr.add; split <;> simp_all
      rw [e, hc]
      simp only [List.getElem?_map, List.getElem?_eq_getElem hj, Option.map_some, Option.some.injEq] at hu
      rw [← hu, List.getD_eq_getElem?_getD, List.getElem?_eq_getElem hj]; rfl
    obtain ⟨v', w', hr', ho, hg, hnil, hat⟩ := run_append_own_at (P := Try.prog) w w.heap.size 69 ty 64 i0 (.int .u32 0) 1 4 Try.underlying69 hi0 hz0 hz1 hz2 rfl (by decide) (.slice none 0 0) 0 [] (World.ownsRow_nil w _ _ _) ⟨b, o, none⟩ n c (l.map (Value.int .u32)) (by simp; omega) hsrc (one_u32 l) (by unfold maxLen; omega) (by omega) (Nat.le_refl _)
    simp only [Nat.zero_add, List.nil_append] at ho
    rcases ho.2 with ⟨_, e⟩ | ⟨g, cap, cur, rfl, _⟩
    · omega
    · refine ⟨_, _, w', hr', ⟨ho, fun i => ?_⟩, (Below.refl _ w).grown hg (Nat.le_refl _) (fun k e => by cases e)⟩
      by_cases hi : i < n
      · exact (hr i hi).2.2.2
      · rw [List.getD_eq_getElem?_getD, List.getElem?_eq_none (by omega)]; simp
structure PkOwn (W : World) (base : Nat) (p : Pk) (s : Pl) : Prop where
  csrc : OwnL W base s.ac s.nc s.cc p.csrc
  ext : Own W base s.ae s.ne s.ce p.ext
  pay : Own W base s.ap s.np s.cp p.payload
  pad : Own W base s.ad s.nd s.cd p.pad
  seq : 0 ≤ p.seq ∧ p.seq < 65536
  ts : 0 ≤ p.ts ∧ p.ts < 4294967296
  ssrc : 0 ≤ p.ssrc ∧ p.ssrc < 4294967296
  prof : 0 ≤ p.profile ∧ p.profile < 65536
theorem PkOwn.in {W : World} {base : Nat} {p : Pk} {s : Pl} (h : PkOwn W base p s) : PkIn W base p s := ⟨h.csrc.lin, h.ext.bin, h.pay.bin, h.pad.bin, h.seq, h.ts, h.ssrc, h.prof⟩
def ClOut (p : Pk) (s : Pl) (w : World) (e : Ending) (w' : World) : Prop :=
  ∃ a1 c1 a2 c2 a3 c3 a4 c4, e = .returned (.agg (pkc p ⟨a1, s.nc, c1, a2, s.ne, c2, a3, s.np, c3, a4, s.nd, c4⟩)) ∧ PkOwn w' w.heap.size p ⟨a1, s.nc, c1, a2, s.ne, c2, a3, s.np, c3, a4, s.nd, c4⟩ ∧ Below w.heap.size w w'
theorem OwnL.below {W W' : World} {base : Nat} {a : Option Addr} {n c : Nat} {l : List Int} (h : OwnL W base a n c l) (hb : Below W.heap.size W W') : OwnL W' base a n c l :=
  h.kept (r := none) ⟨hb.os, hb.tape, hb.output, hb.size, fun k hk _ => hb.block k hk⟩ (fun _ _ e => by cases e)
theorem OwnL.mono {W : World} {base base' : Nat} {a : Option Addr} {n c : Nat} {l : List Int} (h : OwnL W base a n c l) (hb : base' ≤ base) : OwnL W base' a n c l := by
  refine ⟨⟨h.row.1, ?_⟩, h.ok⟩
  rcases h.row.2 with hv | ⟨g, cap, cur, hv, hb', r⟩
  · exact .inl hv
  · exact .inr ⟨g, cap, cur, hv, by omega, r⟩
/-- Block z changed: what lies from z + 2 on stays. -/
theorem Own.off {W W' : World} {B z : Nat} {a : Option Addr} {n c : Nat} {l : List Int} (h : Own W B a n c l) (hg : W.grownBy W' (some z)) (hz : z < B) : Own W' B a n c l := h.kept hg (fun y hy e => by have := (h.blk y hy).1; cases e; omega)
theorem OwnL.off {W W' : World} {B z : Nat} {a : Option Addr} {n c : Nat} {l : List Int} (h : OwnL W B a n c l) (hg : W.grownBy W' (some z)) (hz : z < B) : OwnL W' B a n c l := h.kept hg (fun y hy e => by have := (h.blk y hy).1; cases e; omega)
theorem set_grown (W : World) (z o : Nat) (v : Value) : W.grownBy (W.setCell ⟨z, o, none⟩ v) (some z) := ⟨rfl, rfl, rfl, by simp, fun j _ hj => Below.heap_setCell W _ _ j (fun e => hj (by rw [e]))⟩
end Go.Proofs.Ytedhmoihlfjbdaa

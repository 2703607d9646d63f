
/-
  rtp.Clone.
-/
import Derived.Test.YtkoldfoliigifaaRtpParse5
namespace Go.Proofs.Ytkoldfoliigifaa
open Go.RowKit Go.Shelf
set_option linter.unusedVariables false
theorem one_u32 (l : List Int) : ∀ u ∈ l.map (Value.int .u32), u.oneCell' = true := by
  intro u hu; obtain ⟨x, _, rfl⟩ := List.mem_map.1 hu; rfl
theorem append_copyL (w : World) (ty : TypeId) (a : Option Addr) (n c : Nat) (l : List Int) (h : LgAt w a n l) (hlim : n ≤ 1000000000000) :
    ∃ a' c' w', (Builtin.append_ #[24, 24] ty #[.slice none 0 0, .slice a n c]).run Try.prog w = .ok (.slice a' n c') w' ∧ OwnL w' w.heap.size a' n c' l ∧ Below w.heap.size w w' := by
  obtain ⟨i0, hi0, hz0, hz1, hz2⟩ := info_parts info_u32
  obtain ⟨hlen, b, o, hr⟩ := h
  by_cases h0 : n = 0
  · subst h0
    have hl0 : l = [] := List.eq_nil_of_length_eq_zero hlen
    subst hl0
    refine ⟨none, 0, w, ?_, OwnL.nil _ _, Below.refl _ _⟩
    simp [Builtin.append_, run_underlying Try.underlying24, sizeOf, typeInfo, hi0, Builtin.lenOf, Builtin.firstCells]
    cases a <;> simp [loadCells, loadCellsFrom]
  · obtain ⟨rfl, _⟩ := hr 0 (by omega)
    have hsrc : ∀ j u, (l.map (Value.int .u32))[j]? = some u → w.cell? (Addr.add ⟨b, o, none⟩ j) = some u := fun j u hu => by
      have hj : j < l.length := by have := (List.getElem?_eq_some_iff.1 hu).1; simpa using this
      obtain ⟨_, _, hc, _⟩ := hr j (by omega)
      have e : (Addr.add ⟨b, o, none⟩ j) = ⟨b, o + j, none⟩ := by unfold Addr.add; split <;> simp_all
      rw [e, hc]
      simp only [List.getElem?_map, List.getElem?_eq_getElem hj, Option.map_some, Option.some.injEq] at hu
      rw [← hu, List.getD_eq_getElem?_getD, List.getElem?_eq_getElem hj]; rfl
    obtain ⟨v', w', hr', ho, hg, hnil, hat⟩ := run_append_own_at (P := Try.prog) w w.heap.size 24 ty 23 i0 (.int .u32 0) 1 4 Try.underlying24 hi0 hz0 hz1 hz2 rfl (by decide) (.slice none 0 0) 0 [] (World.ownsRow_nil w _ _ _) ⟨b, o, none⟩ n c (l.map (Value.int .u32)) (by simp; omega) hsrc (one_u32 l) (by unfold maxLen; omega) (by omega) (Nat.le_refl _)
    simp only [Nat.zero_add, List.nil_append] at ho
    rcases ho.2 with ⟨_, e⟩ | ⟨g, cap, cur, rfl, _⟩
    · omega
    · refine ⟨_, _, w', hr', ⟨ho, fun i => ?_⟩, (Below.refl _ w).grown hg (Nat.le_refl _) (fun k e => by cases e)⟩
      by_cases hi : i < n
      · exact (hr i hi).2.2.2
      · rw [List.getD_eq_getElem?_getD, List.getElem?_eq_none (by omega)]; simp
structure PkOwn (W : World) (base : Nat) (p : Pk) (s : Pl) : Prop where
  csrc : OwnL W base s.ac s.nc s.cc p.csrc
  ext : Own W base s.ae s.ne s.ce p.ext
  pay : Own W base s.ap s.np s.cp p.payload
  pad : Own W base s.ad s.nd s.cd p.pad
  seq : 0 ≤ p.seq ∧ p.seq < 65536
  ts : 0 ≤ p.ts ∧ p.ts < 4294967296
  ssrc : 0 ≤ p.ssrc ∧ p.ssrc < 4294967296
  prof : 0 ≤ p.profile ∧ p.profile < 65536
theorem PkOwn.in {W : World} {base : Nat} {p : Pk} {s : Pl} (h : PkOwn W base p s) : PkIn W base p s := ⟨h.csrc.lin, h.ext.bin, h.pay.bin, h.pad.bin, h.seq, h.ts, h.ssrc, h.prof⟩
def ClOut (p : Pk) (s : Pl) (w : World) (e : Ending) (w' : World) : Prop :=
  ∃ a1 c1 a2 c2 a3 c3 a4 c4, e = .returned (.agg (pkc p ⟨a1, s.nc, c1, a2, s.ne, c2, a3, s.np, c3, a4, s.nd, c4⟩)) ∧ PkOwn w' w.heap.size p ⟨a1, s.nc, c1, a2, s.ne, c2, a3, s.np, c3, a4, s.nd, c4⟩ ∧ Below w.heap.size w w'
theorem OwnL.below {W W' : World} {base : Nat} {a : Option Addr} {n c : Nat} {l : List Int} (h : OwnL W base a n c l) (hb : Below W.heap.size W W') : OwnL W' base a n c l :=
  h.kept (r := none) ⟨hb.os, hb.tape, hb.output, hb.size, fun k hk _ => hb.block k hk⟩ (fun _ _ e => by cases e)
theorem OwnL.mono {W : World} {base base' : Nat} {a : Option Addr} {n c : Nat} {l : List Int} (h : OwnL W base a n c l) (hb : base' ≤ base) : OwnL W base' a n c l := by
  refine ⟨⟨h.row.1, ?_⟩, h.ok⟩
  rcases h.row.2 with hv | ⟨g, cap, cur, hv, hb', r⟩
  · exact .inl hv
  · exact .inr ⟨g, cap, cur, hv, by omega, r⟩
/-- Block z changed: what lies from z + 2 on stays. -/
theorem Own.off {W W' : World} {B z : Nat} {a : Option Addr} {n c : Nat} {l : List Int} (h : Own W B a n c l) (hg : W.grownBy W' (some z)) (hz : z < B) : Own W' B a n c l := h.kept hg (fun y hy e => by have := (h.blk y hy).1; cases e; omega)
theorem OwnL.off {W W' : World} {B z : Nat} {a : Option Addr} {n c : Nat} {l : List Int} (h : OwnL W B a n c l) (hg : W.grownBy W' (some z)) (hz : z < B) : OwnL W' B a n c l := h.kept hg (fun y hy e => by have := (h.blk y hy).1; cases e; omega)
theorem set_grown (W : World) (z o : Nat) (v : Value) : W.grownBy (W.setCell ⟨z, o, none⟩ v) (some z) := ⟨rfl, rfl, rfl, by simp, fun j _ hj => Below.heap_setCell W _ _ j (fun e => hj (by rw [e]))⟩
set_option maxHeartbeats 4000000 in
set_option maxRecDepth 100000 in
theorem clone_any (p : Pk) (s : Pl) (w : World) (hp : PkAt w p s) (hs : Sm s) : Calls Try.prog 13 #[.agg (pkc p s)] w (ClOut p s w) := by
  obtain ⟨hcs, hex, hpy, hpd, hsq, hts, hss, hpr⟩ := hp
  obtain ⟨s1, s2, s3, s4⟩ := hs
  obtain ⟨Post, hPost⟩ : ∃ Post, ClOut p s w = Post := ⟨_, rfl⟩
  rw [hPost]
  have HPOST := Lib.hid hPost; clear hPost
  obtain ⟨m, pt, sq, ts, ss, cs, h, pr, ex, py, pd⟩ := p
  obtain ⟨ac, nc, cc, ae, ne, ce, ap, np, cp, ad, nd, cd⟩ := s
  simp only [pkc] at *
  obtain ⟨w0, hw0⟩ : ∃ w0, (w.alloc (.cells #[.bool m, .int .i64 pt, .int .u16 sq, .int .u32 ts, .int .u32 ss, .slice ac nc cc, .bool h, .int .u16 pr, .slice ae ne ce, .slice ap np cp, .slice ad nd cd] 27)).alloc (.cells #[.bool false, .int .i64 0, .int .u16 0, .int .u32 0, .int .u32 0, .slice none 0 0, .bool false, .int .u16 0, .slice none 0 0, .slice none 0 0, .slice none 0 0] 27) = w0 := ⟨_, rfl⟩
  have hB0 : Below w.heap.size w w0 := by rw [← hw0]; exact ((Below.refl _ w).alloc (Nat.le_refl _) _).alloc (by simp) _
  have hz0 : w0.heap.size = w.heap.size + 2 := by rw [← hw0]; simp
  have hr0 : w0.heap[w.heap.size]? = some (.cells #[.bool m, .int .i64 pt, .int .u16 sq, .int .u32 ts, .int .u32 ss, .slice ac nc cc, .bool h, .int .u16 pr, .slice ae ne ce, .slice ap np cp, .slice ad nd cd] 27 (0, 0)) := by rw [← hw0]; exact lit_old rfl
  have hy0 : w0.heap[w.heap.size + 1]? = some (.cells #[.bool false, .int .i64 0, .int .u16 0, .int .u32 0, .int .u32 0, .slice none 0 0, .bool false, .int .u16 0, .slice none 0 0, .slice none 0 0, .slice none 0 0] 27 (0, 0)) := by rw [← hw0]; exact lit_new (by simp)
  obtain ⟨a1, c1, w1, hrun1, hO1, hB1⟩ := append_copyL w0 24 ac nc cc cs (hcs.below hB0) (by omega)
  obtain ⟨w1', hw1'⟩ : ∃ w1', w1.setCell ⟨w.heap.size, 5, none⟩ (.slice a1 nc c1) = w1' := ⟨_, rfl⟩
  have hr1 : w1.heap[w.heap.size]? = some (.cells #[.bool m, .int .i64 pt, .int .u16 sq, .int .u32 ts, .int .u32 ss, .slice ac nc cc, .bool h, .int .u16 pr, .slice ae ne ce, .slice ap np cp, .slice ad nd cd] 27 (0, 0)) := (hB1.block _ (by omega)).trans hr0
  have hr1' : w1'.heap[w.heap.size]? = some (.cells #[.bool m, .int .i64 pt, .int .u16 sq, .int .u32 ts, .int .u32 ss, .slice a1 nc c1, .bool h, .int .u16 pr, .slice ae ne ce, .slice ap np cp, .slice ad nd cd] 27 (0, 0)) := by rw [← hw1']; exact heap_setCell_same w1 _ 5 _ _ _ hr1
  have hg1 : w1.grownBy w1' (some w.heap.size) := by rw [← hw1']; exact set_grown _ _ _ _
  have hl1 : Below w.heap.size w w1' := (hB0.trans (hB1.mono (by omega))).grown hg1 (by have := hB1.size; omega) (fun k e => by cases e; omega)
  have hz1 : w0.heap.size ≤ w1'.heap.size := by have := hB1.size; have := hg1.size; omega
  have hO1' := hO1.off hg1 (by omega)
  obtain ⟨a2, c2, w2, hrun2, hO2, hB2⟩ := append_copy w1' 25 ae ne ce ex (hex.below hl1) (by omega)
  obtain ⟨w2', hw2'⟩ : ∃ w2', w2.setCell ⟨w.heap.size, 8, none⟩ (.slice a2 ne c2) = w2' := ⟨_, rfl⟩
  have hr2 : w2.heap[w.heap.size]? = some (.cells #[.bool m, .int .i64 pt, .int .u16 sq, .int .u32 ts, .int .u32 ss, .slice a1 nc c1, .bool h, .int .u16 pr, .slice ae ne ce, .slice ap np cp, .slice ad nd cd] 27 (0, 0)) := (hB2.block _ (by omega)).trans hr1'
  have hr2' : w2'.heap[w.heap.size]? = some (.cells #[.bool m, .int .i64 pt, .int .u16 sq, .int .u32 ts, .int .u32 ss, .slice a1 nc c1, .bool h, .int .u16 pr, .slice a2 ne c2, .slice ap np cp, .slice ad nd cd] 27 (0, 0)) := by rw [← hw2']; exact heap_setCell_same w2 _ 8 _ _ _ hr2
  have hg2 : w2.grownBy w2' (some w.heap.size) := by rw [← hw2']; exact set_grown _ _ _ _
  have hl2 : Below w.heap.size w w2' := (hl1.trans (hB2.mono (by omega))).grown hg2 (by have := hB2.size; omega) (fun k e => by cases e; omega)
  have hz2 : w0.heap.size ≤ w2'.heap.size := by have := hB2.size; have := hg2.size; omega
  have hO12 := (hO1'.below hB2).off hg2 (by omega)
  have hO2' := (hO2.mono hz1).off hg2 (by omega)
  obtain ⟨a3, c3, w3, hrun3, hO3, hB3⟩ := append_copy w2' 25 ap np cp py (hpy.below hl2) (by omega)
  obtain ⟨w3', hw3'⟩ : ∃ w3', w3.setCell ⟨w.heap.size, 9, none⟩ (.slice a3 np c3) = w3' := ⟨_, rfl⟩
  have hr3 : w3.heap[w.heap.size]? = some (.cells #[.bool m, .int .i64 pt, .int .u16 sq, .int .u32 ts, .int .u32 ss, .slice a1 nc c1, .bool h, .int .u16 pr, .slice a2 ne c2, .slice ap np cp, .slice ad nd cd] 27 (0, 0)) := (hB3.block _ (by omega)).trans hr2'
  have hr3' : w3'.heap[w.heap.size]? = some (.cells #[.bool m, .int .i64 pt, .int .u16 sq, .int .u32 ts, .int .u32 ss, .slice a1 nc c1, .bool h, .int .u16 pr, .slice a2 ne c2, .slice a3 np c3, .slice ad nd cd] 27 (0, 0)) := by rw [← hw3']; exact heap_setCell_same w3 _ 9 _ _ _ hr3
  have hg3 : w3.grownBy w3' (some w.heap.size) := by rw [← hw3']; exact set_grown _ _ _ _
  have hl3 : Below w.heap.size w w3' := (hl2.trans (hB3.mono (by omega))).grown hg3 (by have := hB3.size; omega) (fun k e => by cases e; omega)
  have hz3 : w0.heap.size ≤ w3'.heap.size := by have := hB3.size; have := hg3.size; omega
  have hO13 := (hO12.below hB3).off hg3 (by omega)
  have hO23 := (hO2'.below hB3).off hg3 (by omega)
  have hO3' := (hO3.mono hz2).off hg3 (by omega)
  obtain ⟨a4, c4, w4, hrun4, hO4, hB4⟩ := append_copy w3' 25 ad nd cd pd (hpd.below hl3) (by omega)
  obtain ⟨w4', hw4'⟩ : ∃ w4', w4.setCell ⟨w.heap.size, 10, none⟩ (.slice a4 nd c4) = w4' := ⟨_, rfl⟩
  have hr4 : w4.heap[w.heap.size]? = some (.cells #[.bool m, .int .i64 pt, .int .u16 sq, .int .u32 ts, .int .u32 ss, .slice a1 nc c1, .bool h, .int .u16 pr, .slice a2 ne c2, .slice a3 np c3, .slice ad nd cd] 27 (0, 0)) := (hB4.block _ (by omega)).trans hr3'
  have hr4' : w4'.heap[w.heap.size]? = some (.cells #[.bool m, .int .i64 pt, .int .u16 sq, .int .u32 ts, .int .u32 ss, .slice a1 nc c1, .bool h, .int .u16 pr, .slice a2 ne c2, .slice a3 np c3, .slice a4 nd c4] 27 (0, 0)) := by rw [← hw4']; exact heap_setCell_same w4 _ 10 _ _ _ hr4
  have hg4 : w4.grownBy w4' (some w.heap.size) := by rw [← hw4']; exact set_grown _ _ _ _
  have hl4 : Below w.heap.size w w4' := (hl3.trans (hB4.mono (by omega))).grown hg4 (by have := hB4.size; omega) (fun k e => by cases e; omega)
  have hz4 : w0.heap.size ≤ w4'.heap.size := by have := hB4.size; have := hg4.size; omega
  have hO14 := (hO13.below hB4).off hg4 (by omega)
  have hO24 := (hO23.below hB4).off hg4 (by omega)
  have hO34 := (hO3'.below hB4).off hg4 (by omega)
  have hO4' := (hO4.mono hz3).off hg4 (by omega)
  have hy4 : w4'.heap[w.heap.size + 1]? = some (.cells #[.bool false, .int .i64 0, .int .u16 0, .int .u32 0, .int .u32 0, .slice none 0 0, .bool false, .int .u16 0, .slice none 0 0, .slice none 0 0, .slice none 0 0] 27 (0, 0)) := by
    rw [hg4.block _ (by have := hB4.size; omega) (by simp), hB4.block _ (by omega), hg3.block _ (by have := hB3.size; omega) (by simp), hB3.block _ (by omega), hg2.block _ (by have := hB2.size; omega) (by simp), hB2.block _ (by omega), hg1.block _ (by have := hB1.size; omega) (by simp), hB1.block _ (by omega)]
    exact hy0
  obtain ⟨w5, hw5⟩ : ∃ w5, putL w4' (w.heap.size + 1) 0 [.bool m, .int .i64 pt, .int .u16 sq, .int .u32 ts, .int .u32 ss, .slice a1 nc c1, .bool h, .int .u16 pr, .slice a2 ne c2, .slice a3 np c3, .slice a4 nd c4] = w5 := ⟨_, rfl⟩
  have P5 : Put w4' w5 (w.heap.size + 1) #[.bool m, .int .i64 pt, .int .u16 sq, .int .u32 ts, .int .u32 ss, .slice a1 nc c1, .bool h, .int .u16 pr, .slice a2 ne c2, .slice a3 np c3, .slice a4 nd c4] 27 := by rw [← hw5]; exact putL_is (us := [.bool false, .int .i64 0, .int .u16 0, .int .u32 0, .int .u32 0, .slice none 0 0, .bool false, .int .u16 0, .slice none 0 0, .slice none 0 0, .slice none 0 0]) hy4 rfl
  have hl5 : Below w.heap.size w w5 := hl4.grown P5.grown hl4.size (fun k e => by cases e; omega)
  have hfin : Post (.returned (.agg #[.bool m, .int .i64 pt, .int .u16 sq, .int .u32 ts, .int .u32 ss, .slice a1 nc c1, .bool h, .int .u16 pr, .slice a2 ne c2, .slice a3 np c3, .slice a4 nd c4])) w5 := by
    rw [← HPOST.out]
    exact ⟨a1, c1, a2, c2, a3, c3, a4, c4, rfl, ⟨(hO14.off P5.grown (by omega)).mono (by omega), (hO24.off P5.grown (by omega)).mono (by omega), (hO34.off P5.grown (by omega)).mono (by omega), (hO4'.off P5.grown (by omega)).mono (by omega), hsq, hts, hss, hpr⟩, hl5⟩
  simp only [putL, Nat.zero_add, Nat.reduceAdd] at hw5
  have HF := Lib.hid hfin; have HR1 := Lib.hid hrun1; have HR2 := Lib.hid hrun2; have HR3 := Lib.hid hrun3; have HR4 := Lib.hid hrun4
  have HW5 := Lib.hid hw5
  have q5 := P5.row
  have e5 : w1.cell? ⟨w.heap.size, 5, none⟩ = some (.slice ac nc cc) := by rw [cell_of_row w1 _ 5 _ _ _ hr1]; rfl
  have e8 : w1.cell? ⟨w.heap.size, 8, none⟩ = some (.slice ae ne ce) := by rw [cell_of_row w1 _ 8 _ _ _ hr1]; rfl
  have f8 : w2.cell? ⟨w.heap.size, 8, none⟩ = some (.slice ae ne ce) := by rw [cell_of_row w2 _ 8 _ _ _ hr2]; rfl
  have f9 : w2.cell? ⟨w.heap.size, 9, none⟩ = some (.slice ap np cp) := by rw [cell_of_row w2 _ 9 _ _ _ hr2]; rfl
  have i9 : w3.cell? ⟨w.heap.size, 9, none⟩ = some (.slice ap np cp) := by rw [cell_of_row w3 _ 9 _ _ _ hr3]; rfl
  have i10 : w3.cell? ⟨w.heap.size, 10, none⟩ = some (.slice ad nd cd) := by rw [cell_of_row w3 _ 10 _ _ _ hr3]; rfl
  have g1 := frozen_of_row w1 w.heap.size 5 _ _ hr1
  have g2 := frozen_of_row w2 w.heap.size 8 _ _ hr2
  have g3 := frozen_of_row w3 w.heap.size 9 _ _ hr3
  have g4 := frozen_of_row w4 w.heap.size 10 _ _ hr4
  have d0 : w4.cell? ⟨w.heap.size, 0, none⟩ = some (.bool m) := by rw [cell_of_row w4 _ 0 _ _ _ hr4]; rfl
  have d1 : w4.cell? ⟨w.heap.size, 1, none⟩ = some (.int .i64 pt) := by rw [cell_of_row w4 _ 1 _ _ _ hr4]; rfl
  have d2 : w4.cell? ⟨w.heap.size, 2, none⟩ = some (.int .u16 sq) := by rw [cell_of_row w4 _ 2 _ _ _ hr4]; rfl
  have d3 : w4.cell? ⟨w.heap.size, 3, none⟩ = some (.int .u32 ts) := by rw [cell_of_row w4 _ 3 _ _ _ hr4]; rfl
  have d4 : w4.cell? ⟨w.heap.size, 4, none⟩ = some (.int .u32 ss) := by rw [cell_of_row w4 _ 4 _ _ _ hr4]; rfl
  have d5 : w4.cell? ⟨w.heap.size, 5, none⟩ = some (.slice a1 nc c1) := by rw [cell_of_row w4 _ 5 _ _ _ hr4]; rfl
  have d6 : w4.cell? ⟨w.heap.size, 6, none⟩ = some (.bool h) := by rw [cell_of_row w4 _ 6 _ _ _ hr4]; rfl
  have d7 : w4.cell? ⟨w.heap.size, 7, none⟩ = some (.int .u16 pr) := by rw [cell_of_row w4 _ 7 _ _ _ hr4]; rfl
  have d8 : w4.cell? ⟨w.heap.size, 8, none⟩ = some (.slice a2 ne c2) := by rw [cell_of_row w4 _ 8 _ _ _ hr4]; rfl
  have d9 : w4.cell? ⟨w.heap.size, 9, none⟩ = some (.slice a3 np c3) := by rw [cell_of_row w4 _ 9 _ _ _ hr4]; rfl
  have d10 : w4.cell? ⟨w.heap.size, 10, none⟩ = some (.slice ad nd cd) := by rw [cell_of_row w4 _ 10 _ _ _ hr4]; rfl
  have hy4' : w4.heap[w.heap.size + 1]? = some (.cells #[.bool false, .int .i64 0, .int .u16 0, .int .u32 0, .int .u32 0, .slice none 0 0, .bool false, .int .u16 0, .slice none 0 0, .slice none 0 0, .slice none 0 0] 27 (0, 0)) := (hg4.block _ (by have := hB4.size; omega) (by simp)).symm.trans hy4
  have y0 : w4.cell? ⟨w.heap.size + 1, 0, none⟩ = some (.bool false) := by rw [cell_of_row w4 _ 0 _ _ _ hy4']; rfl
  have y1 : w4.cell? ⟨w.heap.size + 1, 1, none⟩ = some (.int .i64 0) := by rw [cell_of_row w4 _ 1 _ _ _ hy4']; rfl
  have y2 : w4.cell? ⟨w.heap.size + 1, 2, none⟩ = some (.int .u16 0) := by rw [cell_of_row w4 _ 2 _ _ _ hy4']; rfl
  have y3 : w4.cell? ⟨w.heap.size + 1, 3, none⟩ = some (.int .u32 0) := by rw [cell_of_row w4 _ 3 _ _ _ hy4']; rfl
  have y4 : w4.cell? ⟨w.heap.size + 1, 4, none⟩ = some (.int .u32 0) := by rw [cell_of_row w4 _ 4 _ _ _ hy4']; rfl
  have y5 : w4.cell? ⟨w.heap.size + 1, 5, none⟩ = some (.slice none 0 0) := by rw [cell_of_row w4 _ 5 _ _ _ hy4']; rfl
  have y6 : w4.cell? ⟨w.heap.size + 1, 6, none⟩ = some (.bool false) := by rw [cell_of_row w4 _ 6 _ _ _ hy4']; rfl
  have y7 : w4.cell? ⟨w.heap.size + 1, 7, none⟩ = some (.int .u16 0) := by rw [cell_of_row w4 _ 7 _ _ _ hy4']; rfl
  have y8 : w4.cell? ⟨w.heap.size + 1, 8, none⟩ = some (.slice none 0 0) := by rw [cell_of_row w4 _ 8 _ _ _ hy4']; rfl
  have y9 : w4.cell? ⟨w.heap.size + 1, 9, none⟩ = some (.slice none 0 0) := by rw [cell_of_row w4 _ 9 _ _ _ hy4']; rfl
  have y10 : w4.cell? ⟨w.heap.size + 1, 10, none⟩ = some (.slice none 0 0) := by rw [cell_of_row w4 _ 10 _ _ _ hy4']; rfl
  have yf : ∀ o, w4.frozen? ⟨w.heap.size + 1, o, none⟩ = false := fun o => frozen_of_row w4 _ o _ _ hy4'
  have u0 : w5.cell? ⟨w.heap.size + 1, 0, none⟩ = some (.bool m) := by rw [cell_of_row w5 _ 0 _ _ _ q5]; rfl
  have u1 : w5.cell? ⟨w.heap.size + 1, 1, none⟩ = some (.int .i64 pt) := by rw [cell_of_row w5 _ 1 _ _ _ q5]; rfl
  have u2 : w5.cell? ⟨w.heap.size + 1, 2, none⟩ = some (.int .u16 sq) := by rw [cell_of_row w5 _ 2 _ _ _ q5]; rfl
  have u3 : w5.cell? ⟨w.heap.size + 1, 3, none⟩ = some (.int .u32 ts) := by rw [cell_of_row w5 _ 3 _ _ _ q5]; rfl
  have u4 : w5.cell? ⟨w.heap.size + 1, 4, none⟩ = some (.int .u32 ss) := by rw [cell_of_row w5 _ 4 _ _ _ q5]; rfl
  have u5 : w5.cell? ⟨w.heap.size + 1, 5, none⟩ = some (.slice a1 nc c1) := by rw [cell_of_row w5 _ 5 _ _ _ q5]; rfl
  have u6 : w5.cell? ⟨w.heap.size + 1, 6, none⟩ = some (.bool h) := by rw [cell_of_row w5 _ 6 _ _ _ q5]; rfl
  have u7 : w5.cell? ⟨w.heap.size + 1, 7, none⟩ = some (.int .u16 pr) := by rw [cell_of_row w5 _ 7 _ _ _ q5]; rfl
  have u8 : w5.cell? ⟨w.heap.size + 1, 8, none⟩ = some (.slice a2 ne c2) := by rw [cell_of_row w5 _ 8 _ _ _ q5]; rfl
  have u9 : w5.cell? ⟨w.heap.size + 1, 9, none⟩ = some (.slice a3 np c3) := by rw [cell_of_row w5 _ 9 _ _ _ q5]; rfl
  have u10 : w5.cell? ⟨w.heap.size + 1, 10, none⟩ = some (.slice a4 nd c4) := by rw [cell_of_row w5 _ 10 _ _ _ q5]; rfl
  clear hfin hrun1 hrun2 hrun3 hrun4 hw5 hcs hex hpy hpd hB0 hz0 hr0 hy0 hO1 hB1 hr1 hr1' hg1 hl1 hz1 hO1' hO2 hB2 hr2 hr2' hg2 hl2 hz2 hO12 hO2' hO3 hB3 hr3 hr3' hg3 hl3 hz3 hO13 hO23 hO3' hO4 hB4 hr4 hr4' hg4 hl4 hz4 hO14 hO24 hO34 hO4' hy4 hy4' P5 hl5 q5
  subst hw0 hw1' hw2' hw3' hw4'
  go_enter Try.func13, Try.ntmps13
  go_wp2_with (first
    | (at_builtin; refine Lib.wpList_append_run _ rfl (.const (.slice none 0 0)) (.tmp 4) 24 24 rfl (.slice none 0 0) _ (by rfl) (by rfl) _ _ HR1.out ?_)
    | (at_builtin; refine Lib.wpList_append_run _ rfl (.const (.slice none 0 0)) (.tmp 8) 25 25 rfl (.slice none 0 0) _ (by rfl) (by rfl) _ _ HR2.out ?_)
    | (at_builtin; refine Lib.wpList_append_run _ rfl (.const (.slice none 0 0)) (.tmp 12) 25 25 rfl (.slice none 0 0) _ (by rfl) (by rfl) _ _ HR3.out ?_)
    | (at_builtin; refine Lib.wpList_append_run _ rfl (.const (.slice none 0 0)) (.tmp 16) 25 25 rfl (.slice none 0 0) _ (by rfl) (by rfl) _ _ HR4.out ?_))
  rw [HW5.out]
  exact bodyPost_ret (v := .agg #[.bool m, .int .i64 pt, .int .u16 sq, .int .u32 ts, .int .u32 ss, .slice a1 nc c1, .bool h, .int .u16 pr, .slice a2 ne c2, .slice a3 np c3, .slice a4 nd c4]) (by simp [results, Try.results13, go_sem, u0, u1, u2, u3, u4, u5, u6, u7, u8, u9, u10]) rfl HF.out
end Go.Proofs.Ytkoldfoliigifaa

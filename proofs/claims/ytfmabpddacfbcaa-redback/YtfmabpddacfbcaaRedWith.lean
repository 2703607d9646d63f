
/-
  red.with.
-/
import Derived.Test.YtfmabpddacfbcaaRtpClone
import Derived.Deep.Cut
import Derived.Deep.CutBlock
namespace Go.Proofs.Ytfmabpddacfbcaa
open Go.RowKit Go.Shelf
set_option linter.unusedVariables false
theorem PkOwn.mono {W : World} {base base' : Nat} {p : Pk} {s : Pl} (h : PkOwn W base p s) (hb : base' ≤ base) : PkOwn W base' p s :=
  ⟨h.csrc.mono hb, h.ext.mono hb, h.pay.mono hb, h.pad.mono hb, h.seq, h.ts, h.ssrc, h.prof⟩
theorem PkOwn.off {W W' : World} {B z : Nat} {p : Pk} {s : Pl} (h : PkOwn W B p s) (hg : W.grownBy W' (some z)) (hz : z < B) : PkOwn W' B p s :=
  ⟨h.csrc.off hg hz, h.ext.off hg hz, h.pay.off hg hz, h.pad.off hg hz, h.seq, h.ts, h.ssrc, h.prof⟩
/-- A packet in new memory. -/
def CpOut (p : Pk) (w : World) (e : Ending) (w' : World) : Prop := ∃ s, e = .returned (.agg (pkc p s)) ∧ PkOwn w' w.heap.size p s ∧ Below w.heap.size w w' ∧ Sm s
set_option maxHeartbeats 2000000 in
set_option maxRecDepth 100000 in
theorem with_any (p : Pk) (s : Pl) (pt' : Int) (pa : Option Addr) (pn pc : Nat) (l : List Int) (w : World) (hp : PkAt w p s) (hs : Sm s) (hb : BAt w pa pn l) (hn : pn ≤ 100000) :
    Calls Try.prog 25 #[.agg (pkc p s), .int .i64 pt', .slice pa pn pc] w (CpOut { p with pt := pt', payload := l } w) := by
  have hB0 : Below w.heap.size w ((w.alloc (.cells (pkc p s) 36)).alloc (.cells #[.bool false, .int .i64 0, .int .u16 0, .int .u32 0, .int .u32 0, .slice none 0 0, .bool false, .int .u16 0, .slice none 0 0, .slice none 0 0, .slice none 0 0] 36)) := ((Below.refl _ w).alloc (Nat.le_refl _) _).alloc (by simp) _
  have HC : Hid (∀ W, Below w.heap.size w W → Calls Try.prog 36 #[.agg (pkc { p with pt := pt', payload := l } { s with ap := pa, np := pn, cp := pc })] W (ClOut { p with pt := pt', payload := l } { s with ap := pa, np := pn, cp := pc } W)) := Lib.hid fun W hB =>
    clone_any _ _ W ⟨hp.csrc.below hB, hp.ext.below hB, hb.below hB, hp.pad.below hB, hp.seq, hp.ts, hp.ssrc, hp.prof⟩ ⟨hs.1, hs.2.1, hn, hs.2.2.2⟩
  obtain ⟨Post, hPost⟩ : ∃ Post, CpOut { p with pt := pt', payload := l } w = Post := ⟨_, rfl⟩
  rw [hPost]
  have HPOST := Lib.hid hPost; clear hPost
  obtain ⟨s1, s2, s3, s4⟩ := hs
  clear hp hb
  obtain ⟨m, pt, sq, ts, ss, cs, h, pr, ex, py, pd⟩ := p
  obtain ⟨ac, nc, cc, ae, ne, ce, ap, np, cp, ad, nd, cd⟩ := s
  simp only [pkc] at *
  obtain ⟨w0, hw0⟩ : ∃ w0, (w.alloc (.cells #[.bool m, .int .i64 pt, .int .u16 sq, .int .u32 ts, .int .u32 ss, .slice ac nc cc, .bool h, .int .u16 pr, .slice ae ne ce, .slice ap np cp, .slice ad nd cd] 36)).alloc (.cells #[.bool false, .int .i64 0, .int .u16 0, .int .u32 0, .int .u32 0, .slice none 0 0, .bool false, .int .u16 0, .slice none 0 0, .slice none 0 0, .slice none 0 0] 36) = w0 := ⟨_, rfl⟩
  rw [hw0] at hB0
  have hz0 : w0.heap.size = w.heap.size + 2 := by rw [← hw0]; simp
  have hr0 : w0.heap[w.heap.size]? = some (.cells #[.bool m, .int .i64 pt, .int .u16 sq, .int .u32 ts, .int .u32 ss, .slice ac nc cc, .bool h, .int .u16 pr, .slice ae ne ce, .slice ap np cp, .slice ad nd cd] 36 (0, 0)) := by rw [← hw0]; exact lit_old rfl
  have hy0 : w0.heap[w.heap.size + 1]? = some (.cells #[.bool false, .int .i64 0, .int .u16 0, .int .u32 0, .int .u32 0, .slice none 0 0, .bool false, .int .u16 0, .slice none 0 0, .slice none 0 0, .slice none 0 0] 36 (0, 0)) := by rw [← hw0]; exact lit_new (by simp)
  obtain ⟨w1, hw1⟩ : ∃ w1, (w0.setCell ⟨w.heap.size, 1, none⟩ (.int .i64 pt')).setCell ⟨w.heap.size, 9, none⟩ (.slice pa pn pc) = w1 := ⟨_, rfl⟩
  have hr1 : w1.heap[w.heap.size]? = some (.cells #[.bool m, .int .i64 pt', .int .u16 sq, .int .u32 ts, .int .u32 ss, .slice ac nc cc, .bool h, .int .u16 pr, .slice ae ne ce, .slice pa pn pc, .slice ad nd cd] 36 (0, 0)) := by
    rw [← hw1]; exact heap_setCell_same _ _ 9 _ _ _ (heap_setCell_same _ _ 1 _ _ _ hr0)
  have hg1 : w0.grownBy w1 (some w.heap.size) := by
    rw [← hw1]; exact ⟨rfl, rfl, rfl, by simp, fun j _ hj => (Below.heap_setCell _ _ _ j (fun e => hj (by rw [e]))).trans (Below.heap_setCell _ _ _ j (fun e => hj (by rw [e])))⟩
  have hl1 : Below w.heap.size w w1 := hB0.grown hg1 (by omega) (fun k e => by cases e; omega)
  have hy1 := (hg1.block (w.heap.size + 1) (by omega) (by intro e; injection e with e; omega)).trans hy0
  have hz1 : w1.heap.size = w0.heap.size := by rw [← hw1]; simp
  have fP : ∀ o, w0.frozen? ⟨w.heap.size, o, none⟩ = false := fun o => frozen_of_row w0 _ o _ _ hr0
  have e1 : w0.cell? ⟨w.heap.size, 1, none⟩ = some (.int .i64 pt) := by rw [cell_of_row w0 _ 1 _ _ _ hr0]; rfl
  have e9 : w0.cell? ⟨w.heap.size, 9, none⟩ = some (.slice ap np cp) := by rw [cell_of_row w0 _ 9 _ _ _ hr0]; rfl
  have HW0 := Lib.hid hw0; have HW1 := Lib.hid hw1; have HR1 := Lib.hid hr1; have HY1 := Lib.hid hy1; have HL1 := Lib.hid hl1
  clear hw0 hw1 hr1 hy1 hl1 hg1 hr0 hy0 hB0
  go_enter Try.func25, Try.ntmps25
  go_upto_region 1 with (fail)
  rw [HW0.out]
  go_upto_region 2 with (fail)
  rw [HW1.out]
  clear fP e1 e9
  have d0 : w1.cell? ⟨w.heap.size, 0, none⟩ = some (.bool m) := by rw [cell_of_row w1 _ 0 _ _ _ HR1.out]; rfl
  have d1 : w1.cell? ⟨w.heap.size, 1, none⟩ = some (.int .i64 pt') := by rw [cell_of_row w1 _ 1 _ _ _ HR1.out]; rfl
  have d2 : w1.cell? ⟨w.heap.size, 2, none⟩ = some (.int .u16 sq) := by rw [cell_of_row w1 _ 2 _ _ _ HR1.out]; rfl
  have d3 : w1.cell? ⟨w.heap.size, 3, none⟩ = some (.int .u32 ts) := by rw [cell_of_row w1 _ 3 _ _ _ HR1.out]; rfl
  have d4 : w1.cell? ⟨w.heap.size, 4, none⟩ = some (.int .u32 ss) := by rw [cell_of_row w1 _ 4 _ _ _ HR1.out]; rfl
  have d5 : w1.cell? ⟨w.heap.size, 5, none⟩ = some (.slice ac nc cc) := by rw [cell_of_row w1 _ 5 _ _ _ HR1.out]; rfl
  have d6 : w1.cell? ⟨w.heap.size, 6, none⟩ = some (.bool h) := by rw [cell_of_row w1 _ 6 _ _ _ HR1.out]; rfl
  have d7 : w1.cell? ⟨w.heap.size, 7, none⟩ = some (.int .u16 pr) := by rw [cell_of_row w1 _ 7 _ _ _ HR1.out]; rfl
  have d8 : w1.cell? ⟨w.heap.size, 8, none⟩ = some (.slice ae ne ce) := by rw [cell_of_row w1 _ 8 _ _ _ HR1.out]; rfl
  have d9 : w1.cell? ⟨w.heap.size, 9, none⟩ = some (.slice pa pn pc) := by rw [cell_of_row w1 _ 9 _ _ _ HR1.out]; rfl
  have d10 : w1.cell? ⟨w.heap.size, 10, none⟩ = some (.slice ad nd cd) := by rw [cell_of_row w1 _ 10 _ _ _ HR1.out]; rfl
  have HCC := Lib.hid (HC.out w1 HL1.out)
  clear HC
  go_wp2_with fail
  refine (HCC.out).mono ?_
  rintro e w2 ⟨a1, c1, a2, c2, a3, c3, a4, c4, rfl, hO, hB⟩
  simp only [pkc]
  have hy2 := (hB.block (w.heap.size + 1) (by omega)).trans HY1.out
  have hl2 : Below w.heap.size w w2 := HL1.out.trans (hB.mono HL1.out.size)
  have HO := Lib.hid hO; have HL2 := Lib.hid hl2; have HY2 := Lib.hid hy2
  have hz2 : w.heap.size + 2 ≤ w1.heap.size := by omega
  have hz3 := hB.size
  clear hO hB hl2 HCC HY1 HL1 HR1 d0 d1 d2 d3 d4 d5 d6 d7 d8 d9 d10
  have fB : ∀ o, w2.frozen? ⟨w.heap.size + 1, o, none⟩ = false := fun o => frozen_of_row w2 _ o _ _ hy2
  have y0 : w2.cell? ⟨w.heap.size + 1, 0, none⟩ = some (.bool false) := by rw [cell_of_row w2 _ 0 _ _ _ hy2]; rfl
  have y1 : w2.cell? ⟨w.heap.size + 1, 1, none⟩ = some (.int .i64 0) := by rw [cell_of_row w2 _ 1 _ _ _ hy2]; rfl
  have y2 : w2.cell? ⟨w.heap.size + 1, 2, none⟩ = some (.int .u16 0) := by rw [cell_of_row w2 _ 2 _ _ _ hy2]; rfl
  have y3 : w2.cell? ⟨w.heap.size + 1, 3, none⟩ = some (.int .u32 0) := by rw [cell_of_row w2 _ 3 _ _ _ hy2]; rfl
  have y4 : w2.cell? ⟨w.heap.size + 1, 4, none⟩ = some (.int .u32 0) := by rw [cell_of_row w2 _ 4 _ _ _ hy2]; rfl
  have y5 : w2.cell? ⟨w.heap.size + 1, 5, none⟩ = some (.slice none 0 0) := by rw [cell_of_row w2 _ 5 _ _ _ hy2]; rfl
  have y6 : w2.cell? ⟨w.heap.size + 1, 6, none⟩ = some (.bool false) := by rw [cell_of_row w2 _ 6 _ _ _ hy2]; rfl
  have y7 : w2.cell? ⟨w.heap.size + 1, 7, none⟩ = some (.int .u16 0) := by rw [cell_of_row w2 _ 7 _ _ _ hy2]; rfl
  have y8 : w2.cell? ⟨w.heap.size + 1, 8, none⟩ = some (.slice none 0 0) := by rw [cell_of_row w2 _ 8 _ _ _ hy2]; rfl
  have y9 : w2.cell? ⟨w.heap.size + 1, 9, none⟩ = some (.slice none 0 0) := by rw [cell_of_row w2 _ 9 _ _ _ hy2]; rfl
  have y10 : w2.cell? ⟨w.heap.size + 1, 10, none⟩ = some (.slice none 0 0) := by rw [cell_of_row w2 _ 10 _ _ _ hy2]; rfl
  clear hy2
  go_wp2_with fail
  obtain ⟨w3, hw3⟩ : ∃ w3, putL w2 (w.heap.size + 1) 0 [.bool m, .int .i64 pt', .int .u16 sq, .int .u32 ts, .int .u32 ss, .slice a1 nc c1, .bool h, .int .u16 pr, .slice a2 ne c2, .slice a3 pn c3, .slice a4 nd c4] = w3 := ⟨_, rfl⟩
  have P3 : Put w2 w3 (w.heap.size + 1) #[.bool m, .int .i64 pt', .int .u16 sq, .int .u32 ts, .int .u32 ss, .slice a1 nc c1, .bool h, .int .u16 pr, .slice a2 ne c2, .slice a3 pn c3, .slice a4 nd c4] 36 := by rw [← hw3]; exact putL_is (us := [.bool false, .int .i64 0, .int .u16 0, .int .u32 0, .int .u32 0, .slice none 0 0, .bool false, .int .u16 0, .slice none 0 0, .slice none 0 0, .slice none 0 0]) HY2.out rfl
  simp only [putL, Nat.zero_add, Nat.reduceAdd] at hw3
  rw [hw3]
  have q3 := P3.row
  have HF : Hid (Post (.returned (.agg #[.bool m, .int .i64 pt', .int .u16 sq, .int .u32 ts, .int .u32 ss, .slice a1 nc c1, .bool h, .int .u16 pr, .slice a2 ne c2, .slice a3 pn c3, .slice a4 nd c4])) w3) := by
    rw [← HPOST.out]
    exact Lib.hid ⟨⟨a1, nc, c1, a2, ne, c2, a3, pn, c3, a4, nd, c4⟩, rfl, (HO.out.off P3.grown (by omega)).mono (by omega), HL2.out.grown P3.grown HL2.out.size (fun k e => by cases e; omega), s1, s2, hn, s4⟩
  clear hw3 P3 y0 y1 y2 y3 y4 y5 y6 y7 y8 y9 y10 fB
  have d0 : w3.cell? ⟨w.heap.size + 1, 0, none⟩ = some (.bool m) := by rw [cell_of_row w3 _ 0 _ _ _ q3]; rfl
  have d1 : w3.cell? ⟨w.heap.size + 1, 1, none⟩ = some (.int .i64 pt') := by rw [cell_of_row w3 _ 1 _ _ _ q3]; rfl
  have d2 : w3.cell? ⟨w.heap.size + 1, 2, none⟩ = some (.int .u16 sq) := by rw [cell_of_row w3 _ 2 _ _ _ q3]; rfl
  have d3 : w3.cell? ⟨w.heap.size + 1, 3, none⟩ = some (.int .u32 ts) := by rw [cell_of_row w3 _ 3 _ _ _ q3]; rfl
  have d4 : w3.cell? ⟨w.heap.size + 1, 4, none⟩ = some (.int .u32 ss) := by rw [cell_of_row w3 _ 4 _ _ _ q3]; rfl
  have d5 : w3.cell? ⟨w.heap.size + 1, 5, none⟩ = some (.slice a1 nc c1) := by rw [cell_of_row w3 _ 5 _ _ _ q3]; rfl
  have d6 : w3.cell? ⟨w.heap.size + 1, 6, none⟩ = some (.bool h) := by rw [cell_of_row w3 _ 6 _ _ _ q3]; rfl
  have d7 : w3.cell? ⟨w.heap.size + 1, 7, none⟩ = some (.int .u16 pr) := by rw [cell_of_row w3 _ 7 _ _ _ q3]; rfl
  have d8 : w3.cell? ⟨w.heap.size + 1, 8, none⟩ = some (.slice a2 ne c2) := by rw [cell_of_row w3 _ 8 _ _ _ q3]; rfl
  have d9 : w3.cell? ⟨w.heap.size + 1, 9, none⟩ = some (.slice a3 pn c3) := by rw [cell_of_row w3 _ 9 _ _ _ q3]; rfl
  have d10 : w3.cell? ⟨w.heap.size + 1, 10, none⟩ = some (.slice a4 nd c4) := by rw [cell_of_row w3 _ 10 _ _ _ q3]; rfl
  clear q3
  exact bodyPost_ret (v := .agg #[.bool m, .int .i64 pt', .int .u16 sq, .int .u32 ts, .int .u32 ss, .slice a1 nc c1, .bool h, .int .u16 pr, .slice a2 ne c2, .slice a3 pn c3, .slice a4 nd c4]) (by simp [results, Try.results25, go_sem, d0, d1, d2, d3, d4, d5, d6, d7, d8, d9, d10]) rfl HF.out
end Go.Proofs.Ytfmabpddacfbcaa

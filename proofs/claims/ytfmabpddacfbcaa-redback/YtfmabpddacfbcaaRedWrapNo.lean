
/-
  red.Wrap, where it fails.
-/
import Derived.Test.YtfmabpddacfbcaaRedWrap
namespace Go.Proofs.Ytfmabpddacfbcaa
open Go.RowKit Go.Shelf
set_option linter.unusedVariables false
/-- No packet, and an error. -/
def PrNo (f : Int) (w : World) (e : Ending) (w' : World) : Prop := e = .returned (.tuple #[.agg #[.bool false, .int .i64 0, .int .u16 0, .int .u32 0, .int .u32 0, .slice none 0 0, .bool false, .int .u16 0, .slice none 0 0, .slice none 0 0, .slice none 0 0], .int .i64 f]) ∧ Below w.heap.size w w'
set_option maxHeartbeats 2000000 in
set_option maxRecDepth 100000 in
theorem wrap_no1 (p : Pk) (s : Pl) (qt : Int) (w : World) (hq : okPT qt = false) :
    Calls Try.prog 13 #[.agg (pkc p s), .int .i64 qt] w (PrNo 1 w) := by
  have HVP := Lib.hid (fun W => vpt_any qt W)
  rw [hq] at HVP
  have hB0 := Bx.start p s w
  obtain ⟨w0, hw0⟩ : ∃ w0, twoW p s w = w0 := ⟨_, rfl⟩
  rw [hw0] at hB0
  have HW0 := Lib.hid hw0; clear hw0
  unfold twoW at HW0
  have hrs := hB0.rs; have hlow := hB0.low
  have bx0 := hB0.pk
  clear hB0
  obtain ⟨m, pt, sq, ts, ss, cs, h, pr, ex, py, pd⟩ := p
  obtain ⟨ac, nc, cc, ae, ne, ce, ap, np, cp, ad, nd, cd⟩ := s
  simp only [pkc] at *
  have fB : ∀ o, w0.frozen? ⟨w.heap.size + 1, o, none⟩ = false := fun o => frozen_of_row w0 _ o _ _ hrs
  have y0 : w0.cell? ⟨w.heap.size + 1, 0, none⟩ = some (.bool false) := by rw [cell_of_row w0 _ 0 _ _ _ hrs]; rfl
  have y1 : w0.cell? ⟨w.heap.size + 1, 1, none⟩ = some (.int .i64 0) := by rw [cell_of_row w0 _ 1 _ _ _ hrs]; rfl
  have y2 : w0.cell? ⟨w.heap.size + 1, 2, none⟩ = some (.int .u16 0) := by rw [cell_of_row w0 _ 2 _ _ _ hrs]; rfl
  have y3 : w0.cell? ⟨w.heap.size + 1, 3, none⟩ = some (.int .u32 0) := by rw [cell_of_row w0 _ 3 _ _ _ hrs]; rfl
  have y4 : w0.cell? ⟨w.heap.size + 1, 4, none⟩ = some (.int .u32 0) := by rw [cell_of_row w0 _ 4 _ _ _ hrs]; rfl
  have y5 : w0.cell? ⟨w.heap.size + 1, 5, none⟩ = some (.slice none 0 0) := by rw [cell_of_row w0 _ 5 _ _ _ hrs]; rfl
  have y6 : w0.cell? ⟨w.heap.size + 1, 6, none⟩ = some (.bool false) := by rw [cell_of_row w0 _ 6 _ _ _ hrs]; rfl
  have y7 : w0.cell? ⟨w.heap.size + 1, 7, none⟩ = some (.int .u16 0) := by rw [cell_of_row w0 _ 7 _ _ _ hrs]; rfl
  have y8 : w0.cell? ⟨w.heap.size + 1, 8, none⟩ = some (.slice none 0 0) := by rw [cell_of_row w0 _ 8 _ _ _ hrs]; rfl
  have y9 : w0.cell? ⟨w.heap.size + 1, 9, none⟩ = some (.slice none 0 0) := by rw [cell_of_row w0 _ 9 _ _ _ hrs]; rfl
  have y10 : w0.cell? ⟨w.heap.size + 1, 10, none⟩ = some (.slice none 0 0) := by rw [cell_of_row w0 _ 10 _ _ _ hrs]; rfl
  have HRS := Lib.hid hrs; have HLOW := Lib.hid hlow
  clear hrs bx0 hlow
  go_enter Try.func13, Try.ntmps13
  go_upto_region 1 with (fail)
  rw [HW0.out]
  go_wp2_with (go_at_call 24; refine (HVP.out _).mono ?_; rintro e _ ⟨rfl, rfl⟩)
  obtain ⟨w4, hw4⟩ : ∃ w4, putL w0 (w.heap.size + 1) 0 [.bool false, .int .i64 0, .int .u16 0, .int .u32 0, .int .u32 0, .slice none 0 0, .bool false, .int .u16 0, .slice none 0 0, .slice none 0 0, .slice none 0 0] = w4 := ⟨_, rfl⟩
  have P4 : Put w0 w4 (w.heap.size + 1) #[.bool false, .int .i64 0, .int .u16 0, .int .u32 0, .int .u32 0, .slice none 0 0, .bool false, .int .u16 0, .slice none 0 0, .slice none 0 0, .slice none 0 0] 36 := by rw [← hw4]; exact putL_is (us := [.bool false, .int .i64 0, .int .u16 0, .int .u32 0, .int .u32 0, .slice none 0 0, .bool false, .int .u16 0, .slice none 0 0, .slice none 0 0, .slice none 0 0]) HRS.out rfl
  simp only [putL, Nat.zero_add, Nat.reduceAdd] at hw4
  rw [hw4]
  have q4 := P4.row
  have HF : Hid (PrNo 1 w (.returned (.tuple #[.agg #[.bool false, .int .i64 0, .int .u16 0, .int .u32 0, .int .u32 0, .slice none 0 0, .bool false, .int .u16 0, .slice none 0 0, .slice none 0 0, .slice none 0 0], .int .i64 1])) w4) := Lib.hid ⟨rfl, HLOW.out.grown P4.grown HLOW.out.size (fun k e => by cases e; omega)⟩
  clear hw4 P4 fB y0 y1 y2 y3 y4 y5 y6 y7 y8 y9 y10
  have d0 : w4.cell? ⟨w.heap.size + 1, 0, none⟩ = some (.bool false) := by rw [cell_of_row w4 _ 0 _ _ _ q4]; rfl
  have d1 : w4.cell? ⟨w.heap.size + 1, 1, none⟩ = some (.int .i64 0) := by rw [cell_of_row w4 _ 1 _ _ _ q4]; rfl
  have d2 : w4.cell? ⟨w.heap.size + 1, 2, none⟩ = some (.int .u16 0) := by rw [cell_of_row w4 _ 2 _ _ _ q4]; rfl
  have d3 : w4.cell? ⟨w.heap.size + 1, 3, none⟩ = some (.int .u32 0) := by rw [cell_of_row w4 _ 3 _ _ _ q4]; rfl
  have d4 : w4.cell? ⟨w.heap.size + 1, 4, none⟩ = some (.int .u32 0) := by rw [cell_of_row w4 _ 4 _ _ _ q4]; rfl
  have d5 : w4.cell? ⟨w.heap.size + 1, 5, none⟩ = some (.slice none 0 0) := by rw [cell_of_row w4 _ 5 _ _ _ q4]; rfl
  have d6 : w4.cell? ⟨w.heap.size + 1, 6, none⟩ = some (.bool false) := by rw [cell_of_row w4 _ 6 _ _ _ q4]; rfl
  have d7 : w4.cell? ⟨w.heap.size + 1, 7, none⟩ = some (.int .u16 0) := by rw [cell_of_row w4 _ 7 _ _ _ q4]; rfl
  have d8 : w4.cell? ⟨w.heap.size + 1, 8, none⟩ = some (.slice none 0 0) := by rw [cell_of_row w4 _ 8 _ _ _ q4]; rfl
  have d9 : w4.cell? ⟨w.heap.size + 1, 9, none⟩ = some (.slice none 0 0) := by rw [cell_of_row w4 _ 9 _ _ _ q4]; rfl
  have d10 : w4.cell? ⟨w.heap.size + 1, 10, none⟩ = some (.slice none 0 0) := by rw [cell_of_row w4 _ 10 _ _ _ q4]; rfl
  clear q4
  exact bodyPost_ret (v := .tuple #[.agg #[.bool false, .int .i64 0, .int .u16 0, .int .u32 0, .int .u32 0, .slice none 0 0, .bool false, .int .u16 0, .slice none 0 0, .slice none 0 0, .slice none 0 0], .int .i64 1]) (by simp [results, Try.results13, go_sem, d0, d1, d2, d3, d4, d5, d6, d7, d8, d9, d10]) rfl HF.out
set_option maxHeartbeats 2000000 in
set_option maxRecDepth 100000 in
theorem wrap_no2 (p : Pk) (s : Pl) (qt : Int) (w : World) (hp : PkAt w p s) (hs : Sm s) (hcp : s.np ≤ s.cp) (hq : okPT qt = true) (hf : (rwcode 1 (fun _ => p.pt) (fun _ => 0) (fun _ => p.payload) != 0) = true) :
    Calls Try.prog 13 #[.agg (pkc p s), .int .i64 qt] w (PrNo (rwcode 1 (fun _ => p.pt) (fun _ => 0) (fun _ => p.payload)) w) := by
  have hlp := hp.pay.len
  have HVP := Lib.hid (fun W => vpt_any qt W)
  rw [hq] at HVP
  have HWR : Hid (∀ W b, Below w.heap.size w W → W.heap[b]? = some (.cells #[.int .i64 p.pt, .int .i64 0, .slice s.ap s.np s.cp] 50 (0, 0)) → Calls Try.prog 7 #[.slice (some ⟨b, 0, none⟩) 1 1] W (WrOut (rwcode 1 (fun _ => p.pt) (fun _ => 0) (fun _ => p.payload)) (rwbytes 1 (fun _ => p.pt) (fun _ => 0) (fun _ => p.payload)) W)) := Lib.hid fun W b hB hr => by
    exact redw_any (some ⟨b, 0, none⟩) 1 1 (fun _ => p.pt) (fun _ => 0) (fun _ => s.ap) (fun _ => s.cp) (fun _ => p.payload) W ⟨b, 0, fun i hi => by
      obtain rfl : i = 0 := by omega
      exact ⟨rfl, (Array.getElem?_eq_some_iff.1 hr).1, by rw [cell_of_row W b _ _ _ _ hr]; rfl, by rw [cell_of_row W b _ _ _ _ hr]; rfl, by rw [cell_of_row W b _ _ _ _ hr, hlp]; rfl, by rw [hlp]; exact hp.pay.below hB, by show p.payload.length ≤ s.cp; omega⟩⟩ (by omega) (by omega) (fun i hi => by have := hs.2.2.1; omega)
  have hB0 := Bx.start p s w
  clear hp hs hcp hlp hq
  obtain ⟨w0, hw0⟩ : ∃ w0, twoW p s w = w0 := ⟨_, rfl⟩
  rw [hw0] at hB0
  have HW0 := Lib.hid hw0; clear hw0
  unfold twoW at HW0
  have HB0 := Lib.hid hB0
  have HXX : Hid (∀ W, Bx p s w W → W.heap[w.heap.size]? = some (.cells (pkc p s) 36 (0, 0))) := Lib.hid fun W h => h.pk
  have bx0 := hB0.pk
  clear hB0
  obtain ⟨m, pt, sq, ts, ss, cs, h, pr, ex, py, pd⟩ := p
  obtain ⟨ac, nc, cc, ae, ne, ce, ap, np, cp, ad, nd, cd⟩ := s
  simp only [pkc] at *
  generalize rwcode 1 (fun _ => pt) (fun _ => 0) (fun _ => py) = f at *
  generalize rwbytes 1 (fun _ => pt) (fun _ => 0) (fun _ => py) = L at *
  have c1 : w0.cell? ⟨w.heap.size, 1, none⟩ = some (.int .i64 pt) := by rw [cell_of_row w0 _ 1 _ _ _ bx0]; rfl
  have c9 : w0.cell? ⟨w.heap.size, 9, none⟩ = some (.slice ap np cp) := by rw [cell_of_row w0 _ 9 _ _ _ bx0]; rfl
  go_enter Try.func13, Try.ntmps13
  go_upto_region 1 with (fail)
  rw [HW0.out]
  obtain ⟨w1, hw1⟩ : ∃ w1, w0.alloc (.cells #[.int .i64 pt, .int .i64 0, .slice ap np cp] 50) = w1 := ⟨_, rfl⟩
  have hX1 := HB0.out.below (W' := w1) (by rw [← hw1]; exact (Below.refl _ w0).alloc (Nat.le_refl _) _)
  have hbk : w1.heap[w0.heap.size]? = some (.cells #[.int .i64 pt, .int .i64 0, .slice ap np cp] 50 (0, 0)) := by rw [← hw1]; exact lit_new rfl
  have HWC := Lib.hid (HWR.out w1 w0.heap.size hX1.low hbk)
  have HW1 := Lib.hid hw1; have HX1 := Lib.hid hX1
  clear hw1 hX1 hbk HWR bx0
  go_wp2_with (go_at_call 24; refine (HVP.out _).mono ?_; rintro e _ ⟨rfl, rfl⟩)
  rw [HW1.out]
  refine (HWC.out).mono ?_
  rintro e w2 ⟨ab, nb, cb, rfl, hOb, hB2⟩
  have hX2 := HX1.out.below hB2
  have hrs := hX2.rs
  have HLOW := Lib.hid hX2.low
  have HRS := Lib.hid hrs
  clear hB2 hX2 HX1 HXX hOb HWC c1 c9
  have fB : ∀ o, w2.frozen? ⟨w.heap.size + 1, o, none⟩ = false := fun o => frozen_of_row w2 _ o _ _ hrs
  have y0 : w2.cell? ⟨w.heap.size + 1, 0, none⟩ = some (.bool false) := by rw [cell_of_row w2 _ 0 _ _ _ hrs]; rfl
  have y1 : w2.cell? ⟨w.heap.size + 1, 1, none⟩ = some (.int .i64 0) := by rw [cell_of_row w2 _ 1 _ _ _ hrs]; rfl
  have y2 : w2.cell? ⟨w.heap.size + 1, 2, none⟩ = some (.int .u16 0) := by rw [cell_of_row w2 _ 2 _ _ _ hrs]; rfl
  have y3 : w2.cell? ⟨w.heap.size + 1, 3, none⟩ = some (.int .u32 0) := by rw [cell_of_row w2 _ 3 _ _ _ hrs]; rfl
  have y4 : w2.cell? ⟨w.heap.size + 1, 4, none⟩ = some (.int .u32 0) := by rw [cell_of_row w2 _ 4 _ _ _ hrs]; rfl
  have y5 : w2.cell? ⟨w.heap.size + 1, 5, none⟩ = some (.slice none 0 0) := by rw [cell_of_row w2 _ 5 _ _ _ hrs]; rfl
  have y6 : w2.cell? ⟨w.heap.size + 1, 6, none⟩ = some (.bool false) := by rw [cell_of_row w2 _ 6 _ _ _ hrs]; rfl
  have y7 : w2.cell? ⟨w.heap.size + 1, 7, none⟩ = some (.int .u16 0) := by rw [cell_of_row w2 _ 7 _ _ _ hrs]; rfl
  have y8 : w2.cell? ⟨w.heap.size + 1, 8, none⟩ = some (.slice none 0 0) := by rw [cell_of_row w2 _ 8 _ _ _ hrs]; rfl
  have y9 : w2.cell? ⟨w.heap.size + 1, 9, none⟩ = some (.slice none 0 0) := by rw [cell_of_row w2 _ 9 _ _ _ hrs]; rfl
  have y10 : w2.cell? ⟨w.heap.size + 1, 10, none⟩ = some (.slice none 0 0) := by rw [cell_of_row w2 _ 10 _ _ _ hrs]; rfl
  clear hrs
  go_wp2_with fail
  obtain ⟨w4, hw4⟩ : ∃ w4, putL w2 (w.heap.size + 1) 0 [.bool false, .int .i64 0, .int .u16 0, .int .u32 0, .int .u32 0, .slice none 0 0, .bool false, .int .u16 0, .slice none 0 0, .slice none 0 0, .slice none 0 0] = w4 := ⟨_, rfl⟩
  have P4 : Put w2 w4 (w.heap.size + 1) #[.bool false, .int .i64 0, .int .u16 0, .int .u32 0, .int .u32 0, .slice none 0 0, .bool false, .int .u16 0, .slice none 0 0, .slice none 0 0, .slice none 0 0] 36 := by rw [← hw4]; exact putL_is (us := [.bool false, .int .i64 0, .int .u16 0, .int .u32 0, .int .u32 0, .slice none 0 0, .bool false, .int .u16 0, .slice none 0 0, .slice none 0 0, .slice none 0 0]) HRS.out rfl
  simp only [putL, Nat.zero_add, Nat.reduceAdd] at hw4
  rw [hw4]
  have q4 := P4.row
  have HF : Hid (PrNo f w (.returned (.tuple #[.agg #[.bool false, .int .i64 0, .int .u16 0, .int .u32 0, .int .u32 0, .slice none 0 0, .bool false, .int .u16 0, .slice none 0 0, .slice none 0 0, .slice none 0 0], .int .i64 f])) w4) := Lib.hid ⟨rfl, HLOW.out.grown P4.grown HLOW.out.size (fun k e => by cases e; omega)⟩
  clear hw4 P4 fB y0 y1 y2 y3 y4 y5 y6 y7 y8 y9 y10
  have d0 : w4.cell? ⟨w.heap.size + 1, 0, none⟩ = some (.bool false) := by rw [cell_of_row w4 _ 0 _ _ _ q4]; rfl
  have d1 : w4.cell? ⟨w.heap.size + 1, 1, none⟩ = some (.int .i64 0) := by rw [cell_of_row w4 _ 1 _ _ _ q4]; rfl
  have d2 : w4.cell? ⟨w.heap.size + 1, 2, none⟩ = some (.int .u16 0) := by rw [cell_of_row w4 _ 2 _ _ _ q4]; rfl
  have d3 : w4.cell? ⟨w.heap.size + 1, 3, none⟩ = some (.int .u32 0) := by rw [cell_of_row w4 _ 3 _ _ _ q4]; rfl
  have d4 : w4.cell? ⟨w.heap.size + 1, 4, none⟩ = some (.int .u32 0) := by rw [cell_of_row w4 _ 4 _ _ _ q4]; rfl
  have d5 : w4.cell? ⟨w.heap.size + 1, 5, none⟩ = some (.slice none 0 0) := by rw [cell_of_row w4 _ 5 _ _ _ q4]; rfl
  have d6 : w4.cell? ⟨w.heap.size + 1, 6, none⟩ = some (.bool false) := by rw [cell_of_row w4 _ 6 _ _ _ q4]; rfl
  have d7 : w4.cell? ⟨w.heap.size + 1, 7, none⟩ = some (.int .u16 0) := by rw [cell_of_row w4 _ 7 _ _ _ q4]; rfl
  have d8 : w4.cell? ⟨w.heap.size + 1, 8, none⟩ = some (.slice none 0 0) := by rw [cell_of_row w4 _ 8 _ _ _ q4]; rfl
  have d9 : w4.cell? ⟨w.heap.size + 1, 9, none⟩ = some (.slice none 0 0) := by rw [cell_of_row w4 _ 9 _ _ _ q4]; rfl
  have d10 : w4.cell? ⟨w.heap.size + 1, 10, none⟩ = some (.slice none 0 0) := by rw [cell_of_row w4 _ 10 _ _ _ q4]; rfl
  clear q4
  exact bodyPost_ret (v := .tuple #[.agg #[.bool false, .int .i64 0, .int .u16 0, .int .u32 0, .int .u32 0, .slice none 0 0, .bool false, .int .u16 0, .slice none 0 0, .slice none 0 0, .slice none 0 0], .int .i64 f]) (by simp [results, Try.results13, go_sem, d0, d1, d2, d3, d4, d5, d6, d7, d8, d9, d10]) rfl HF.out
end Go.Proofs.Ytfmabpddacfbcaa

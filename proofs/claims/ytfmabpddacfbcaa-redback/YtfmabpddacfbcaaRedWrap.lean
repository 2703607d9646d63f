
/-
  red.Wrap, where it goes well.
-/
import Derived.Test.YtfmabpddacfbcaaRedPrim
import Derived.Test.YtfmabpddacfbcaaRedWrite2
namespace Go.Proofs.Ytfmabpddacfbcaa
open Go.RowKit Go.Shelf
set_option linter.unusedVariables false
/-- A chain of one block. -/
def one1 (pt : Int) (l : List Int) : List Int := renc (fun _ => pt) (fun _ => 0) (fun _ => l) 0
theorem one1_len (pt : Int) (l : List Int) : (one1 pt l).length = 1 + l.length := by simp [one1, renc, hds, dts, Big_len]
set_option maxHeartbeats 2000000 in
set_option maxRecDepth 100000 in
theorem wrap_ok (p : Pk) (s : Pl) (qt : Int) (w : World) (hp : PkAt w p s) (hs : Sm s) (hcp : s.np ≤ s.cp) (hq : okPT qt = true) (hpt : okPT p.pt = true) (hl : s.np + 1 ≤ 1500) :
    Calls Try.prog 13 #[.agg (pkc p s), .int .i64 qt] w (PrOut { p with pt := qt, payload := one1 p.pt p.payload } 0 w) := by
  have hlp := hp.pay.len
  have hcode : rwcode 1 (fun _ => p.pt) (fun _ => 0) (fun _ => p.payload) = 0 := by
    have e1 : okF (fun _ => p.pt) (fun _ => 0) 1 = true := by simp [okF, okB, hpt]
    unfold rwcode
    rw [if_neg (by decide), if_neg (by decide), if_neg (by rw [e1]; simp), if_neg (by simp [rlong, anyL, psum]; omega)]
  have HVP := Lib.hid (fun W => vpt_any qt W)
  rw [hq] at HVP
  have HWR : Hid (∀ W b, Below w.heap.size w W → W.heap[b]? = some (.cells #[.int .i64 p.pt, .int .i64 0, .slice s.ap s.np s.cp] 50 (0, 0)) → Calls Try.prog 7 #[.slice (some ⟨b, 0, none⟩) 1 1] W (WrOut 0 (one1 p.pt p.payload) W)) := Lib.hid fun W b hB hr => by
    have h1 := redw_any (some ⟨b, 0, none⟩) 1 1 (fun _ => p.pt) (fun _ => 0) (fun _ => s.ap) (fun _ => s.cp) (fun _ => p.payload) W ⟨b, 0, fun i hi => by
      obtain rfl : i = 0 := by omega
      exact ⟨rfl, (Array.getElem?_eq_some_iff.1 hr).1, by rw [cell_of_row W b _ _ _ _ hr]; rfl, by rw [cell_of_row W b _ _ _ _ hr]; rfl, by rw [cell_of_row W b _ _ _ _ hr, hlp]; rfl, by rw [hlp]; exact hp.pay.below hB, by show p.payload.length ≤ s.cp; omega⟩⟩ (by omega) (by omega) (fun i hi => by have := hs.2.2.1; omega)
    rw [hcode] at h1
    have h2 : rwbytes 1 (fun _ => p.pt) (fun _ => 0) (fun _ => p.payload) = one1 p.pt p.payload := by unfold rwbytes; rw [if_pos hcode]; rfl
    rw [h2] at h1
    exact h1
  have HWI : Hid (∀ W pa pc, Below w.heap.size w W → BAt W pa (one1 p.pt p.payload).length (one1 p.pt p.payload) → Calls Try.prog 25 #[.agg (pkc p s), .int .i64 qt, .slice pa (one1 p.pt p.payload).length pc] W (CpOut { p with pt := qt, payload := one1 p.pt p.payload } W)) := Lib.hid fun W pa pc hB hb =>
    with_any p s _ pa _ pc _ W (hp.below hB) hs hb (by rw [one1_len]; omega)
  have hB0 := Bx.start p s w
  obtain ⟨Post, hPost⟩ : ∃ Post, PrOut { p with pt := qt, payload := one1 p.pt p.payload } 0 w = Post := ⟨_, rfl⟩
  rw [hPost]
  have HPOST := Lib.hid hPost; clear hPost hp hs hcp hlp hcode hq hpt hl
  obtain ⟨w0, hw0⟩ : ∃ w0, twoW p s w = w0 := ⟨_, rfl⟩
  rw [hw0] at hB0
  have HW0 := Lib.hid hw0; clear hw0
  unfold twoW at HW0
  have HB0 := Lib.hid hB0
  have HXX : Hid (∀ W, Bx p s w W → W.heap[w.heap.size]? = some (.cells (pkc p s) 36 (0, 0))) := Lib.hid fun W h => h.pk
  have bx0 := hB0.pk
  clear hB0
  obtain ⟨m, pt, sq, ts, ss, cs, h, pr, ex, py, pd⟩ := p
  obtain ⟨ac, nc, cc, ae, ne, ce, ap, np, cp, ad, nd, cd⟩ := s
  simp only [pkc] at *
  generalize one1 pt py = L at *
  obtain ⟨n3', hn3⟩ : ∃ z, L.length = z := ⟨_, rfl⟩
  rw [hn3] at HWI
  have HN3 := Lib.hid hn3; clear hn3
  have c1 : w0.cell? ⟨w.heap.size, 1, none⟩ = some (.int .i64 pt) := by rw [cell_of_row w0 _ 1 _ _ _ bx0]; rfl
  have c9 : w0.cell? ⟨w.heap.size, 9, none⟩ = some (.slice ap np cp) := by rw [cell_of_row w0 _ 9 _ _ _ bx0]; rfl
  go_enter Try.func13, Try.ntmps13
  go_upto_region 1 with (fail)
  rw [HW0.out]
  obtain ⟨w1, hw1⟩ : ∃ w1, w0.alloc (.cells #[.int .i64 pt, .int .i64 0, .slice ap np cp] 50) = w1 := ⟨_, rfl⟩
  have hX1 := HB0.out.below (W' := w1) (by rw [← hw1]; exact (Below.refl _ w0).alloc (Nat.le_refl _) _)
  have hbk : w1.heap[w0.heap.size]? = some (.cells #[.int .i64 pt, .int .i64 0, .slice ap np cp] 50 (0, 0)) := by rw [← hw1]; exact lit_new rfl
  have HWC := Lib.hid (HWR.out w1 w0.heap.size hX1.low hbk)
  have HW1 := Lib.hid hw1; have HX1 := Lib.hid hX1
  clear hw1 hX1 hbk HWR bx0
  go_wp2_with (go_at_call 24; refine (HVP.out _).mono ?_; rintro e _ ⟨rfl, rfl⟩)
  rw [HW1.out]
  refine (HWC.out).mono ?_
  rintro e w2 ⟨ab, nb, cb, rfl, hOb, hB2⟩
  obtain rfl : nb = n3' := by have h1 := hOb.bat.len; have h2 := HN3.out; omega
  have hX2 := HX1.out.below hB2
  have hpk := HXX.out w2 hX2
  have d0 : w2.cell? ⟨w.heap.size, 0, none⟩ = some (.bool m) := by rw [cell_of_row w2 _ 0 _ _ _ hpk]; rfl
  have d1 : w2.cell? ⟨w.heap.size, 1, none⟩ = some (.int .i64 pt) := by rw [cell_of_row w2 _ 1 _ _ _ hpk]; rfl
  have d2 : w2.cell? ⟨w.heap.size, 2, none⟩ = some (.int .u16 sq) := by rw [cell_of_row w2 _ 2 _ _ _ hpk]; rfl
  have d3 : w2.cell? ⟨w.heap.size, 3, none⟩ = some (.int .u32 ts) := by rw [cell_of_row w2 _ 3 _ _ _ hpk]; rfl
  have d4 : w2.cell? ⟨w.heap.size, 4, none⟩ = some (.int .u32 ss) := by rw [cell_of_row w2 _ 4 _ _ _ hpk]; rfl
  have d5 : w2.cell? ⟨w.heap.size, 5, none⟩ = some (.slice ac nc cc) := by rw [cell_of_row w2 _ 5 _ _ _ hpk]; rfl
  have d6 : w2.cell? ⟨w.heap.size, 6, none⟩ = some (.bool h) := by rw [cell_of_row w2 _ 6 _ _ _ hpk]; rfl
  have d7 : w2.cell? ⟨w.heap.size, 7, none⟩ = some (.int .u16 pr) := by rw [cell_of_row w2 _ 7 _ _ _ hpk]; rfl
  have d8 : w2.cell? ⟨w.heap.size, 8, none⟩ = some (.slice ae ne ce) := by rw [cell_of_row w2 _ 8 _ _ _ hpk]; rfl
  have d9 : w2.cell? ⟨w.heap.size, 9, none⟩ = some (.slice ap np cp) := by rw [cell_of_row w2 _ 9 _ _ _ hpk]; rfl
  have d10 : w2.cell? ⟨w.heap.size, 10, none⟩ = some (.slice ad nd cd) := by rw [cell_of_row w2 _ 10 _ _ _ hpk]; rfl
  have HWC2 := Lib.hid (HWI.out w2 ab cb hX2.low hOb.bat)
  have HX2 := Lib.hid hX2
  clear hB2 hX2 hpk HWI HX1 HXX hOb HWC c1 c9
  go_wp2_with fail
  refine (HWC2.out).mono ?_
  rintro e w3 ⟨⟨a1, n1, c1, a2, n2, c2, a3, n3, c3, a4, n4, c4⟩, rfl, hO, hB3, hsm⟩
  have hX3 := HX2.out.below hB3
  have hO3 := hO.mono HX2.out.low.size
  simp only [pkc]
  have hrs := hX3.rs
  have hlw := hX3.low
  have hsz := HX2.out.size
  have HRS := Lib.hid hrs; have HO3 := Lib.hid hO; have HLW := Lib.hid hlw
  clear hO hB3 hX3 hO3 HX2 HWC2 d0 d1 d2 d3 d4 d5 d6 d7 d8 d9 d10 hlw
  have fB : ∀ o, w3.frozen? ⟨w.heap.size + 1, o, none⟩ = false := fun o => frozen_of_row w3 _ o _ _ hrs
  have y0 : w3.cell? ⟨w.heap.size + 1, 0, none⟩ = some (.bool false) := by rw [cell_of_row w3 _ 0 _ _ _ hrs]; rfl
  have y1 : w3.cell? ⟨w.heap.size + 1, 1, none⟩ = some (.int .i64 0) := by rw [cell_of_row w3 _ 1 _ _ _ hrs]; rfl
  have y2 : w3.cell? ⟨w.heap.size + 1, 2, none⟩ = some (.int .u16 0) := by rw [cell_of_row w3 _ 2 _ _ _ hrs]; rfl
  have y3 : w3.cell? ⟨w.heap.size + 1, 3, none⟩ = some (.int .u32 0) := by rw [cell_of_row w3 _ 3 _ _ _ hrs]; rfl
  have y4 : w3.cell? ⟨w.heap.size + 1, 4, none⟩ = some (.int .u32 0) := by rw [cell_of_row w3 _ 4 _ _ _ hrs]; rfl
  have y5 : w3.cell? ⟨w.heap.size + 1, 5, none⟩ = some (.slice none 0 0) := by rw [cell_of_row w3 _ 5 _ _ _ hrs]; rfl
  have y6 : w3.cell? ⟨w.heap.size + 1, 6, none⟩ = some (.bool false) := by rw [cell_of_row w3 _ 6 _ _ _ hrs]; rfl
  have y7 : w3.cell? ⟨w.heap.size + 1, 7, none⟩ = some (.int .u16 0) := by rw [cell_of_row w3 _ 7 _ _ _ hrs]; rfl
  have y8 : w3.cell? ⟨w.heap.size + 1, 8, none⟩ = some (.slice none 0 0) := by rw [cell_of_row w3 _ 8 _ _ _ hrs]; rfl
  have y9 : w3.cell? ⟨w.heap.size + 1, 9, none⟩ = some (.slice none 0 0) := by rw [cell_of_row w3 _ 9 _ _ _ hrs]; rfl
  have y10 : w3.cell? ⟨w.heap.size + 1, 10, none⟩ = some (.slice none 0 0) := by rw [cell_of_row w3 _ 10 _ _ _ hrs]; rfl
  clear hrs
  go_wp2_with fail
  obtain ⟨w4, hw4⟩ : ∃ w4, putL w3 (w.heap.size + 1) 0 [.bool m, .int .i64 qt, .int .u16 sq, .int .u32 ts, .int .u32 ss, .slice a1 n1 c1, .bool h, .int .u16 pr, .slice a2 n2 c2, .slice a3 n3 c3, .slice a4 n4 c4] = w4 := ⟨_, rfl⟩
  have P4 : Put w3 w4 (w.heap.size + 1) #[.bool m, .int .i64 qt, .int .u16 sq, .int .u32 ts, .int .u32 ss, .slice a1 n1 c1, .bool h, .int .u16 pr, .slice a2 n2 c2, .slice a3 n3 c3, .slice a4 n4 c4] 36 := by rw [← hw4]; exact putL_is (us := [.bool false, .int .i64 0, .int .u16 0, .int .u32 0, .int .u32 0, .slice none 0 0, .bool false, .int .u16 0, .slice none 0 0, .slice none 0 0, .slice none 0 0]) HRS.out rfl
  simp only [putL, Nat.zero_add, Nat.reduceAdd] at hw4
  rw [hw4]
  have q4 := P4.row
  have HF : Hid (Post (.returned (.tuple #[.agg #[.bool m, .int .i64 qt, .int .u16 sq, .int .u32 ts, .int .u32 ss, .slice a1 n1 c1, .bool h, .int .u16 pr, .slice a2 n2 c2, .slice a3 n3 c3, .slice a4 n4 c4], .int .i64 0])) w4) := by
    rw [← HPOST.out]
    exact Lib.hid ⟨⟨a1, n1, c1, a2, n2, c2, a3, n3, c3, a4, n4, c4⟩, rfl, (HO3.out.off P4.grown (by omega)).mono (by omega), HLW.out.grown P4.grown HLW.out.size (fun k e => by cases e; omega), hsm⟩
  clear hw4 P4 fB y0 y1 y2 y3 y4 y5 y6 y7 y8 y9 y10
  have d0 : w4.cell? ⟨w.heap.size + 1, 0, none⟩ = some (.bool m) := by rw [cell_of_row w4 _ 0 _ _ _ q4]; rfl
  have d1 : w4.cell? ⟨w.heap.size + 1, 1, none⟩ = some (.int .i64 qt) := by rw [cell_of_row w4 _ 1 _ _ _ q4]; rfl
  have d2 : w4.cell? ⟨w.heap.size + 1, 2, none⟩ = some (.int .u16 sq) := by rw [cell_of_row w4 _ 2 _ _ _ q4]; rfl
  have d3 : w4.cell? ⟨w.heap.size + 1, 3, none⟩ = some (.int .u32 ts) := by rw [cell_of_row w4 _ 3 _ _ _ q4]; rfl
  have d4 : w4.cell? ⟨w.heap.size + 1, 4, none⟩ = some (.int .u32 ss) := by rw [cell_of_row w4 _ 4 _ _ _ q4]; rfl
  have d5 : w4.cell? ⟨w.heap.size + 1, 5, none⟩ = some (.slice a1 n1 c1) := by rw [cell_of_row w4 _ 5 _ _ _ q4]; rfl
  have d6 : w4.cell? ⟨w.heap.size + 1, 6, none⟩ = some (.bool h) := by rw [cell_of_row w4 _ 6 _ _ _ q4]; rfl
  have d7 : w4.cell? ⟨w.heap.size + 1, 7, none⟩ = some (.int .u16 pr) := by rw [cell_of_row w4 _ 7 _ _ _ q4]; rfl
  have d8 : w4.cell? ⟨w.heap.size + 1, 8, none⟩ = some (.slice a2 n2 c2) := by rw [cell_of_row w4 _ 8 _ _ _ q4]; rfl
  have d9 : w4.cell? ⟨w.heap.size + 1, 9, none⟩ = some (.slice a3 n3 c3) := by rw [cell_of_row w4 _ 9 _ _ _ q4]; rfl
  have d10 : w4.cell? ⟨w.heap.size + 1, 10, none⟩ = some (.slice a4 n4 c4) := by rw [cell_of_row w4 _ 10 _ _ _ q4]; rfl
  clear q4
  exact bodyPost_ret (v := .tuple #[.agg #[.bool m, .int .i64 qt, .int .u16 sq, .int .u32 ts, .int .u32 ss, .slice a1 n1 c1, .bool h, .int .u16 pr, .slice a2 n2 c2, .slice a3 n3 c3, .slice a4 n4 c4], .int .i64 0]) (by simp [results, Try.results13, go_sem, d0, d1, d2, d3, d4, d5, d6, d7, d8, d9, d10]) rfl HF.out
end Go.Proofs.Ytfmabpddacfbcaa

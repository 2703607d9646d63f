
/-
  red.Primary.
-/
import Derived.Test.YtfmabpddacfbcaaRedWith
import Derived.Test.YtfmabpddacfbcaaRedParse
namespace Go.Proofs.Ytfmabpddacfbcaa
open Go.RowKit Go.Shelf
set_option linter.unusedVariables false
/-- A packet in new memory, and an error. -/
def PrOut (p : Pk) (f : Int) (w : World) (e : Ending) (w' : World) : Prop := ∃ s, e = .returned (.tuple #[.agg (pkc p s), .int .i64 f]) ∧ PkOwn w' w.heap.size p s ∧ Below w.heap.size w w' ∧ Sm s
/-- Two boxes: the packet p's, and the result's. -/
def twoW (p : Pk) (s : Pl) (w : World) : World := (w.alloc (.cells (pkc p s) 36)).alloc (.cells #[.bool false, .int .i64 0, .int .u16 0, .int .u32 0, .int .u32 0, .slice none 0 0, .bool false, .int .u16 0, .slice none 0 0, .slice none 0 0, .slice none 0 0] 36)
structure Bx (p : Pk) (s : Pl) (w W : World) : Prop where
  pk : W.heap[w.heap.size]? = some (.cells (pkc p s) 36 (0, 0))
  rs : W.heap[w.heap.size + 1]? = some (.cells #[.bool false, .int .i64 0, .int .u16 0, .int .u32 0, .int .u32 0, .slice none 0 0, .bool false, .int .u16 0, .slice none 0 0, .slice none 0 0, .slice none 0 0] 36 (0, 0))
  low : Below w.heap.size w W
  size : w.heap.size + 2 ≤ W.heap.size
theorem Bx.start (p : Pk) (s : Pl) (w : World) : Bx p s w (twoW p s w) :=
  ⟨lit_old rfl, lit_new (by simp), ((Below.refl _ w).alloc (Nat.le_refl _) _).alloc (by simp) _, by simp [twoW]⟩
theorem Bx.below {p : Pk} {s : Pl} {w W W' : World} (h : Bx p s w W) (hb : Below W.heap.size W W') : Bx p s w W' :=
  ⟨(hb.block _ (by have := h.size; omega)).trans h.pk, (hb.block _ (by have := h.size; omega)).trans h.rs, h.low.trans (hb.mono h.low.size), Nat.le_trans h.size hb.size⟩
set_option maxHeartbeats 2000000 in
set_option maxRecDepth 100000 in
theorem primary_ok (p : Pk) (s : Pl) (K : Nat) (w : World) (hp : PkAt w p s) (hs : Sm s) (hcp : s.np ≤ s.cp) (hK : Good p.payload K) :
    Calls Try.prog 15 #[.agg (pkc p s)] w (PrOut { p with pt := ppt p.payload K, payload := pdat p.payload K K } 0 w) := by
  have hlp := hp.pay.len
  have HPA : Hid (∀ W, Below w.heap.size w W → Calls Try.prog 11 #[.slice s.ap s.np s.cp] W (PBk K p.payload W)) := Lib.hid fun W hB => rparse_ok s.ap s.np s.cp p.payload K W (hp.pay.below hB) hcp hK hs.2.2.1
  have HWI : Hid (∀ W pa pc, Below w.heap.size w W → BAt W pa (pdat p.payload K K).length (pdat p.payload K K) → Calls Try.prog 25 #[.agg (pkc p s), .int .i64 (ppt p.payload K), .slice pa (pdat p.payload K K).length pc] W (CpOut { p with pt := ppt p.payload K, payload := pdat p.payload K K } W)) := Lib.hid fun W pa pc hB hb =>
    with_any p s _ pa _ pc _ W (hp.below hB) hs hb (by
      have : (pdat p.payload K K).length ≤ p.payload.length := by unfold pdat; rw [if_neg (by omega), List.length_drop]; omega
      have := hs.2.2.1; omega)
  have hB0 := Bx.start p s w
  have hK8 := hK.hd.lt
  obtain ⟨Post, hPost⟩ : ∃ Post, PrOut { p with pt := ppt p.payload K, payload := pdat p.payload K K } 0 w = Post := ⟨_, rfl⟩
  rw [hPost]
  have HPOST := Lib.hid hPost; clear hPost hp hs hcp hK hlp
  obtain ⟨w0, hw0⟩ : ∃ w0, twoW p s w = w0 := ⟨_, rfl⟩
  rw [hw0] at hB0
  have HW0 := Lib.hid hw0; clear hw0
  unfold twoW at HW0
  obtain ⟨qt, hqt⟩ : ∃ q, ppt p.payload K = q := ⟨_, rfl⟩
  rw [hqt] at HWI HPOST
  have HQT := Lib.hid hqt; clear hqt
  have HB0 := Lib.hid hB0
  have HPA0 := Lib.hid (HPA.out w0 hB0.low)
  have HXX : Hid (∀ W, Bx p s w W → W.heap[w.heap.size]? = some (.cells (pkc p s) 36 (0, 0))) := Lib.hid fun W h => h.pk
  have bx0 := hB0.pk
  clear hB0 HPA
  obtain ⟨m, pt, sq, ts, ss, cs, h, pr, ex, py, pd⟩ := p
  obtain ⟨ac, nc, cc, ae, ne, ce, ap, np, cp, ad, nd, cd⟩ := s
  simp only [pkc] at *
  have c9 : w0.cell? ⟨w.heap.size, 9, none⟩ = some (.slice ap np cp) := by rw [cell_of_row w0 _ 9 _ _ _ bx0]; rfl
  go_enter Try.func15, Try.ntmps15
  go_upto_region 1 with (fail)
  rw [HW0.out]
  go_wp2_with fail
  refine (HPA0.out).mono ?_
  rintro e w1 ⟨ao, co, rfl, hBR, hB1⟩
  obtain ⟨A, C, ⟨b, o, hr⟩, hkc, hbi⟩ := hBR.at
  obtain ⟨rfl, hbl, g0, g1, g2, gb, gc⟩ := hr K (by omega)
  have hX1 := HB0.out.below hB1
  have GB := Lib.hid gb
  have HX1 := Lib.hid hX1
  clear hBR hB1 hr hbi HPA0 bx0 c9 gc
  have hsub : IntKind.i64.wrap (((K + 1 : Nat) : Int) - 1) = (K : Int) := by rw [IntKind.wrap_i64]; omega
  have hsub2 : ((K : Int) + 1) - 1 = (K : Int) := by omega
  have hi0 : (0 : Int) ≤ (K : Int) := by omega
  have hi2 : (K : Int) < (K : Int) + 1 := by omega
  go_upto_region 5 with (fail)
  rw [show ppt py K = qt from HQT.out]
  obtain ⟨w2, hw2⟩ : ∃ w2, w1.alloc (.cells #[.int .i64 qt, .int .i64 (pof py K), .slice (A K) (pdat py K K).length (C K)] 50) = w2 := ⟨_, rfl⟩
  have hB2 : Below w1.heap.size w1 w2 := by rw [← hw2]; exact (Below.refl _ w1).alloc (Nat.le_refl _) _
  have hX2 := HX1.out.below hB2
  have hz2 : w2.heap.size = w1.heap.size + 1 := by rw [← hw2]; simp
  have hbk : w2.heap[w1.heap.size]? = some (.cells #[.int .i64 qt, .int .i64 (pof py K), .slice (A K) (pdat py K K).length (C K)] 50 (0, 0)) := by rw [← hw2]; exact lit_new rfl
  have k0 : w2.cell? ⟨w1.heap.size, 0, none⟩ = some (.int .i64 qt) := by rw [cell_of_row w2 _ 0 _ _ _ hbk]; rfl
  have k2 : w2.cell? ⟨w1.heap.size, 2, none⟩ = some (.slice (A K) (pdat py K K).length (C K)) := by rw [cell_of_row w2 _ 2 _ _ _ hbk]; rfl
  have hpk := HXX.out w2 hX2
  rw [hw2]
  have d0 : w2.cell? ⟨w.heap.size, 0, none⟩ = some (.bool m) := by rw [cell_of_row w2 _ 0 _ _ _ hpk]; rfl
  have d1 : w2.cell? ⟨w.heap.size, 1, none⟩ = some (.int .i64 pt) := by rw [cell_of_row w2 _ 1 _ _ _ hpk]; rfl
  have d2 : w2.cell? ⟨w.heap.size, 2, none⟩ = some (.int .u16 sq) := by rw [cell_of_row w2 _ 2 _ _ _ hpk]; rfl
  have d3 : w2.cell? ⟨w.heap.size, 3, none⟩ = some (.int .u32 ts) := by rw [cell_of_row w2 _ 3 _ _ _ hpk]; rfl
  have d4 : w2.cell? ⟨w.heap.size, 4, none⟩ = some (.int .u32 ss) := by rw [cell_of_row w2 _ 4 _ _ _ hpk]; rfl
  have d5 : w2.cell? ⟨w.heap.size, 5, none⟩ = some (.slice ac nc cc) := by rw [cell_of_row w2 _ 5 _ _ _ hpk]; rfl
  have d6 : w2.cell? ⟨w.heap.size, 6, none⟩ = some (.bool h) := by rw [cell_of_row w2 _ 6 _ _ _ hpk]; rfl
  have d7 : w2.cell? ⟨w.heap.size, 7, none⟩ = some (.int .u16 pr) := by rw [cell_of_row w2 _ 7 _ _ _ hpk]; rfl
  have d8 : w2.cell? ⟨w.heap.size, 8, none⟩ = some (.slice ae ne ce) := by rw [cell_of_row w2 _ 8 _ _ _ hpk]; rfl
  have d9 : w2.cell? ⟨w.heap.size, 9, none⟩ = some (.slice ap np cp) := by rw [cell_of_row w2 _ 9 _ _ _ hpk]; rfl
  have d10 : w2.cell? ⟨w.heap.size, 10, none⟩ = some (.slice ad nd cd) := by rw [cell_of_row w2 _ 10 _ _ _ hpk]; rfl
  have HWC := Lib.hid (HWI.out w2 (A K) (C K) hX2.low (GB.out.below hB2))
  have HX2 := Lib.hid hX2
  clear hw2 hB2 hX2 hbk hpk HWI HX1 HXX GB
  go_wp2_with fail
  refine (HWC.out).mono ?_
  rintro e w3 ⟨⟨a1, n1, c1, a2, n2, c2, a3, n3, c3, a4, n4, c4⟩, rfl, hO, hB3, hsm⟩
  have hX3 := HX2.out.below hB3
  have hO3 := hO.mono HX2.out.low.size
  simp only [pkc]
  have hrs := hX3.rs
  have hlw := hX3.low
  have hsz := HX2.out.size
  have HRS := Lib.hid hrs; have HO3 := Lib.hid hO; have HLW := Lib.hid hlw
  clear hO hB3 hX3 hO3 HX2 HWC k0 k2 d0 d1 d2 d3 d4 d5 d6 d7 d8 d9 d10 hlw
  have fB : ∀ o, w3.frozen? ⟨w.heap.size + 1, o, none⟩ = false := fun o => frozen_of_row w3 _ o _ _ hrs
  have y0 : w3.cell? ⟨w.heap.size + 1, 0, none⟩ = some (.bool false) := by rw [cell_of_row w3 _ 0 _ _ _ hrs]; rfl
  have y1 : w3.cell? ⟨w.heap.size + 1, 1, none⟩ = some (.int .i64 0) := by rw [cell_of_row w3 _ 1 _ _ _ hrs]; rfl
  have y2 : w3.cell? ⟨w.heap.size + 1, 2, none⟩ = some (.int .u16 0) := by rw [cell_of_row w3 _ 2 _ _ _ hrs]; rfl
  have y3 : w3.cell? ⟨w.heap.size + 1, 3, none⟩ = some (.int .u32 0) := by rw [cell_of_row w3 _ 3 _ _ _ hrs]; rfl
  have y4 : w3.cell? ⟨w.heap.size + 1, 4, none⟩ = some (.int .u32 0) := by rw [cell_of_row w3 _ 4 _ _ _ hrs]; rfl
  have y5 : w3.cell? ⟨w.heap.size + 1, 5, none⟩ = some (.slice none 0 0) := by rw [cell_of_row w3 _ 5 _ _ _ hrs]; rfl
  have y6 : w3.cell? ⟨w.heap.size + 1, 6, none⟩ = some (.bool false) := by rw [cell_of_row w3 _ 6 _ _ _ hrs]; rfl
  have y7 : w3.cell? ⟨w.heap.size + 1, 7, none⟩ = some (.int .u16 0) := by rw [cell_of_row w3 _ 7 _ _ _ hrs]; rfl
  have y8 : w3.cell? ⟨w.heap.size + 1, 8, none⟩ = some (.slice none 0 0) := by rw [cell_of_row w3 _ 8 _ _ _ hrs]; rfl
  have y9 : w3.cell? ⟨w.heap.size + 1, 9, none⟩ = some (.slice none 0 0) := by rw [cell_of_row w3 _ 9 _ _ _ hrs]; rfl
  have y10 : w3.cell? ⟨w.heap.size + 1, 10, none⟩ = some (.slice none 0 0) := by rw [cell_of_row w3 _ 10 _ _ _ hrs]; rfl
  clear hrs
  go_wp2_with fail
  obtain ⟨w4, hw4⟩ : ∃ w4, putL w3 (w.heap.size + 1) 0 [.bool m, .int .i64 qt, .int .u16 sq, .int .u32 ts, .int .u32 ss, .slice a1 n1 c1, .bool h, .int .u16 pr, .slice a2 n2 c2, .slice a3 n3 c3, .slice a4 n4 c4] = w4 := ⟨_, rfl⟩
  have P4 : Put w3 w4 (w.heap.size + 1) #[.bool m, .int .i64 qt, .int .u16 sq, .int .u32 ts, .int .u32 ss, .slice a1 n1 c1, .bool h, .int .u16 pr, .slice a2 n2 c2, .slice a3 n3 c3, .slice a4 n4 c4] 36 := by rw [← hw4]; exact putL_is (us := [.bool false, .int .i64 0, .int .u16 0, .int .u32 0, .int .u32 0, .slice none 0 0, .bool false, .int .u16 0, .slice none 0 0, .slice none 0 0, .slice none 0 0]) HRS.out rfl
  simp only [putL, Nat.zero_add, Nat.reduceAdd] at hw4
  rw [hw4]
  have q4 := P4.row
  have HF : Hid (Post (.returned (.tuple #[.agg #[.bool m, .int .i64 qt, .int .u16 sq, .int .u32 ts, .int .u32 ss, .slice a1 n1 c1, .bool h, .int .u16 pr, .slice a2 n2 c2, .slice a3 n3 c3, .slice a4 n4 c4], .int .i64 0])) w4) := by
    rw [← HPOST.out]
    exact Lib.hid ⟨⟨a1, n1, c1, a2, n2, c2, a3, n3, c3, a4, n4, c4⟩, rfl, (HO3.out.off P4.grown (by omega)).mono (by omega), HLW.out.grown P4.grown HLW.out.size (fun k e => by cases e; omega), hsm⟩
  clear hw4 P4 fB y0 y1 y2 y3 y4 y5 y6 y7 y8 y9 y10
  have d0 : w4.cell? ⟨w.heap.size + 1, 0, none⟩ = some (.bool m) := by rw [cell_of_row w4 _ 0 _ _ _ q4]; rfl
  have d1 : w4.cell? ⟨w.heap.size + 1, 1, none⟩ = some (.int .i64 qt) := by rw [cell_of_row w4 _ 1 _ _ _ q4]; rfl
  have d2 : w4.cell? ⟨w.heap.size + 1, 2, none⟩ = some (.int .u16 sq) := by rw [cell_of_row w4 _ 2 _ _ _ q4]; rfl
  have d3 : w4.cell? ⟨w.heap.size + 1, 3, none⟩ = some (.int .u32 ts) := by rw [cell_of_row w4 _ 3 _ _ _ q4]; rfl
  have d4 : w4.cell? ⟨w.heap.size + 1, 4, none⟩ = some (.int .u32 ss) := by rw [cell_of_row w4 _ 4 _ _ _ q4]; rfl
  have d5 : w4.cell? ⟨w.heap.size + 1, 5, none⟩ = some (.slice a1 n1 c1) := by rw [cell_of_row w4 _ 5 _ _ _ q4]; rfl
  have d6 : w4.cell? ⟨w.heap.size + 1, 6, none⟩ = some (.bool h) := by rw [cell_of_row w4 _ 6 _ _ _ q4]; rfl
  have d7 : w4.cell? ⟨w.heap.size + 1, 7, none⟩ = some (.int .u16 pr) := by rw [cell_of_row w4 _ 7 _ _ _ q4]; rfl
  have d8 : w4.cell? ⟨w.heap.size + 1, 8, none⟩ = some (.slice a2 n2 c2) := by rw [cell_of_row w4 _ 8 _ _ _ q4]; rfl
  have d9 : w4.cell? ⟨w.heap.size + 1, 9, none⟩ = some (.slice a3 n3 c3) := by rw [cell_of_row w4 _ 9 _ _ _ q4]; rfl
  have d10 : w4.cell? ⟨w.heap.size + 1, 10, none⟩ = some (.slice a4 n4 c4) := by rw [cell_of_row w4 _ 10 _ _ _ q4]; rfl
  clear q4
  exact bodyPost_ret (v := .tuple #[.agg #[.bool m, .int .i64 qt, .int .u16 sq, .int .u32 ts, .int .u32 ss, .slice a1 n1 c1, .bool h, .int .u16 pr, .slice a2 n2 c2, .slice a3 n3 c3, .slice a4 n4 c4], .int .i64 0]) (by simp [results, Try.results15, go_sem, d0, d1, d2, d3, d4, d5, d6, d7, d8, d9, d10]) rfl HF.out
end Go.Proofs.Ytfmabpddacfbcaa

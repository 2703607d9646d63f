
/-
  confluxlaw12.alive: the walk.
-/
import Derived.Test.YtppgjodehphaeaaIbAl0
namespace Go.Proofs.Ytppgjodehphaeaa
open Go.RowKit Go.Shelf
set_option linter.unusedVariables false
set_option linter.unusedSimpArgs false
attribute [local go_sem] Oper.semAt_some
structure A12 (w : World) (P : Nat) (ax : Option Addr) (cx : Nat) (W : World) : Prop where
  x : W.heap[P]? = some (.cells #[.int .u8 0, .int .u8 96, .int .u8 0, .int .u8 0, .int .u8 0, .int .u8 2, .int .u8 0, .int .u8 1, .slice ax 1 cx] 27 (0, 0))
  b : BAt W (some ⟨w.heap.size, 0, none⟩) 13 alB
  bd : BAt W ax 1 [65]
  low : Below w.heap.size w W
theorem A12.below {w : World} {P : Nat} {ax : Option Addr} {cx : Nat} {W W' : World} (h : A12 w P ax cx W) (hb : Below W.heap.size W W') : A12 w P ax cx W' :=
  ⟨(hb.block _ (Array.getElem?_eq_some_iff.1 h.x).1).trans h.x, h.b.below hb, h.bd.below hb, h.low.trans (hb.mono h.low.size)⟩
structure C12 (w : World) (P Q : Nat) (ax : Option Addr) (cx : Nat) (a4 : Option Addr) (W : World) : Prop where
  a : A12 w P ax cx W
  y : W.heap[Q]? = some (.cells #[.int .u8 0, .int .u8 96, .int .u8 0, .int .u8 0, .int .u8 0, .int .u8 2, .int .u8 0, .int .u8 9, .slice ax 1 cx] 27 (0, 0))
  c : BAt W a4 13 alB
theorem C12.below {w : World} {P Q : Nat} {ax a4 : Option Addr} {cx : Nat} {W W' : World} (h : C12 w P Q ax cx a4 W) (hb : Below W.heap.size W W') : C12 w P Q ax cx a4 W' :=
  ⟨h.a.below hb, (hb.block _ (Array.getElem?_eq_some_iff.1 h.y).1).trans h.y, h.c.below hb⟩
theorem C12.alloc {w : World} {P Q : Nat} {ax a4 : Option Addr} {cx : Nat} {W : World} (h : C12 w P Q ax cx a4 W) (o : Obj) : C12 w P Q ax cx a4 (W.alloc o) := h.below ((Below.refl _ W).alloc (Nat.le_refl _) _)
structure D12 (w : World) (P Q Z F : Nat) (ax : Option Addr) (cx : Nat) (a4 a8 a9 : Option Addr) (c8 c9 : Nat) (W : World) : Prop where
  c : C12 w P Q ax cx a4 W
  z : W.heap[Z]? = some (.cells #[.int .u8 0, .int .u8 0, .int .u8 0, .int .u8 0, .int .u8 0, .int .u8 0, .int .u8 0, .int .u8 0, .slice a8 1 c8] 27 (0, 0))
  f : W.heap[F]? = some (.cells #[.int .u8 0, .int .u8 96, .int .u8 0, .int .u8 0, .int .u8 0, .int .u8 2, .int .u8 0, .int .u8 9, .slice a9 1 c9] 27 (0, 0))
  zb : BAt W a8 1 [0]
  fb : BAt W a9 1 [65]
theorem D12.below {w : World} {P Q Z F : Nat} {ax a4 a8 a9 : Option Addr} {cx c8 c9 : Nat} {W W' : World} (h : D12 w P Q Z F ax cx a4 a8 a9 c8 c9 W) (hb : Below W.heap.size W W') : D12 w P Q Z F ax cx a4 a8 a9 c8 c9 W' :=
  ⟨h.c.below hb, (hb.block _ (Array.getElem?_eq_some_iff.1 h.z).1).trans h.z, (hb.block _ (Array.getElem?_eq_some_iff.1 h.f).1).trans h.f, h.zb.below hb, h.fb.below hb⟩
theorem D12.cs {w : World} {P Q Z F : Nat} {ax a4 a8 a9 : Option Addr} {cx c8 c9 : Nat} {W : World} (h : D12 w P Q Z F ax cx a4 a8 a9 c8 c9 W) : W.cell? ⟨P, 0, none⟩ = some (.int .u8 0) ∧ W.cell? ⟨P, 1, none⟩ = some (.int .u8 96) ∧ W.cell? ⟨P, 2, none⟩ = some (.int .u8 0) ∧ W.cell? ⟨P, 3, none⟩ = some (.int .u8 0) ∧ W.cell? ⟨P, 4, none⟩ = some (.int .u8 0) ∧ W.cell? ⟨P, 5, none⟩ = some (.int .u8 2) ∧ W.cell? ⟨P, 6, none⟩ = some (.int .u8 0) ∧ W.cell? ⟨P, 7, none⟩ = some (.int .u8 1) ∧ W.cell? ⟨P, 8, none⟩ = some (.slice ax 1 cx) ∧ W.cell? ⟨Q, 0, none⟩ = some (.int .u8 0) ∧ W.cell? ⟨Q, 1, none⟩ = some (.int .u8 96) ∧ W.cell? ⟨Q, 2, none⟩ = some (.int .u8 0) ∧ W.cell? ⟨Q, 3, none⟩ = some (.int .u8 0) ∧ W.cell? ⟨Q, 4, none⟩ = some (.int .u8 0) ∧ W.cell? ⟨Q, 5, none⟩ = some (.int .u8 2) ∧ W.cell? ⟨Q, 6, none⟩ = some (.int .u8 0) ∧ W.cell? ⟨Q, 7, none⟩ = some (.int .u8 9) ∧ W.cell? ⟨Q, 8, none⟩ = some (.slice ax 1 cx) ∧ W.cell? ⟨Z, 0, none⟩ = some (.int .u8 0) ∧ W.cell? ⟨Z, 1, none⟩ = some (.int .u8 0) ∧ W.cell? ⟨Z, 2, none⟩ = some (.int .u8 0) ∧ W.cell? ⟨Z, 3, none⟩ = some (.int .u8 0) ∧ W.cell? ⟨Z, 4, none⟩ = some (.int .u8 0) ∧ W.cell? ⟨Z, 5, none⟩ = some (.int .u8 0) ∧ W.cell? ⟨Z, 6, none⟩ = some (.int .u8 0) ∧ W.cell? ⟨Z, 7, none⟩ = some (.int .u8 0) ∧ W.cell? ⟨Z, 8, none⟩ = some (.slice a8 1 c8) ∧ W.cell? ⟨F, 0, none⟩ = some (.int .u8 0) ∧ W.cell? ⟨F, 1, none⟩ = some (.int .u8 96) ∧ W.cell? ⟨F, 2, none⟩ = some (.int .u8 0) ∧ W.cell? ⟨F, 3, none⟩ = some (.int .u8 0) ∧ W.cell? ⟨F, 4, none⟩ = some (.int .u8 0) ∧ W.cell? ⟨F, 5, none⟩ = some (.int .u8 2) ∧ W.cell? ⟨F, 6, none⟩ = some (.int .u8 0) ∧ W.cell? ⟨F, 7, none⟩ = some (.int .u8 9) ∧ W.cell? ⟨F, 8, none⟩ = some (.slice a9 1 c9) := by
  refine ⟨?_, ?_, ?_, ?_, ?_, ?_, ?_, ?_, ?_, ?_, ?_, ?_, ?_, ?_, ?_, ?_, ?_, ?_, ?_, ?_, ?_, ?_, ?_, ?_, ?_, ?_, ?_, ?_, ?_, ?_, ?_, ?_, ?_, ?_, ?_, ?_⟩
  iterate 9 (rw [cell_of_row W _ _ _ _ _ h.c.a.x]; rfl)
  iterate 9 (rw [cell_of_row W _ _ _ _ _ h.c.y]; rfl)
  iterate 9 (rw [cell_of_row W _ _ _ _ _ h.z]; rfl)
  iterate 9 (rw [cell_of_row W _ _ _ _ _ h.f]; rfl)
theorem al_gap1 : Str.gap [0] [] < 0 := by decide
theorem al_gap2 : Str.gap [65] [65] < 0 := by decide
theorem A12.alloc {w : World} {P : Nat} {ax : Option Addr} {cx : Nat} {W : World} (h : A12 w P ax cx W) (o : Obj) : A12 w P ax cx (W.alloc o) := h.below ((Below.refl _ W).alloc (Nat.le_refl _) _)
set_option maxHeartbeats 1000000 in
set_option maxRecDepth 100000 in
theorem ialive (w : World) : Calls Try.prog 6 #[] w (ValB (.bool true) w) := by
  obtain ⟨w1, hw1⟩ : ∃ w1, w.alloc (.cells #[.int .u8 128, .int .u8 96, .int .u8 0, .int .u8 1, .int .u8 0, .int .u8 0, .int .u8 0, .int .u8 2, .int .u8 0, .int .u8 0, .int .u8 0, .int .u8 3, .int .u8 65] 5 (13, 14)) = w1 := ⟨_, rfl⟩
  have hb1 : BAt w1 (some ⟨w.heap.size, 0, none⟩) 13 alB := by rw [← hw1]; exact lit_bat' (l := alB) (heap_alloc_new w _) (ok_lit rfl) (by decide)
  have B01 : Below w.heap.size w w1 := by rw [← hw1]; exact (Below.refl _ w).alloc (Nat.le_refl _) _
  have HOF := of_any (some ⟨w.heap.size, 0, none⟩) 13 13 alB w1 hb1 (by omega)
  rw [alB_code] at HOF
  have HOF1 := Lib.hid HOF
  have hcv := Lib.run_convert_bytes_const (P := Try.prog) w 22 5 #[.int .u8 128, .int .u8 96, .int .u8 0, .int .u8 1, .int .u8 0, .int .u8 0, .int .u8 0, .int .u8 2, .int .u8 0, .int .u8 0, .int .u8 0, .int .u8 3, .int .u8 65] 13 13 Try.underlying22 Try.underlying5
  simp only [List.size_toArray, List.length_cons, List.length_nil, Nat.reduceAdd] at hcv
  rw [hw1] at hcv
  have HB1 := Lib.hid hb1; have HB01 := Lib.hid B01
  clear HOF hb1 B01 hw1
  go_enter Try.func6, Try.ntmps6
  go_wp2_with fail
  refine (HOF1.out).mono ?_
  rintro e w2 ⟨_, h2⟩
  obtain ⟨ax, cx, rfl, hO2, hB2⟩ := h2 rfl
  rw [al_hd]
  have hO2' : Own w2 w1.heap.size ax 1 cx [65] := hO2
  simp only [ibc, List.getD_cons_zero, List.getD_cons_succ]
  have HCX := Lib.hid hO2'.cap7
  have HO2 := Lib.hid hO2'; have HB2 := Lib.hid hB2
  clear h2 hO2 hO2' hB2 HOF1 hcv
  have hl12 : alB.length - 12 = 1 := by decide
  rw [hl12]
  clear hl12
  go_wp2_with fail
  obtain ⟨P, hP⟩ : ∃ P, w2.heap.size = P := ⟨_, rfl⟩
  obtain ⟨w3, hw3⟩ : ∃ w3, w2.alloc (.cells #[.int .u8 0, .int .u8 96, .int .u8 0, .int .u8 0, .int .u8 0, .int .u8 2, .int .u8 0, .int .u8 1, .slice ax 1 cx] 27) = w3 := ⟨_, rfl⟩
  have hA3 : A12 w P ax cx w3 := by
    have h23 : Below w2.heap.size w2 w3 := by rw [← hw3]; exact (Below.refl _ w2).alloc (Nat.le_refl _) _
    exact ⟨by rw [← hw3, ← hP]; exact lit_new rfl, (HB1.out.below HB2.out).below h23, (HO2.out.below h23).bat, (HB01.out.trans (HB2.out.mono HB01.out.size)).trans (h23.mono (by have := HB01.out.size; have := HB2.out.size; omega))⟩
  have HA3 := Lib.hid hA3
  rw [hw3, hP]
  clear hA3 hw3 hP HO2 HB2 HB1 HB01
  have hpk := packet_any 0 96 0 0 0 2 0 1 ax 1 cx [65] 1 3 w3 HA3.out.bd HCX.out (by omega) (by omega) (by omega) (by omega) (by omega) (by omega) (by omega) (by omega) (by omega) (by omega) (by omega)
  rw [al_pc, al_po] at hpk
  refine (hpk).mono ?_
  rintro e w4 ⟨a4, n4, c4, rfl, hO4, hB4⟩
  have HA4 := Lib.hid (HA3.out.below hB4); have HO4 := Lib.hid hO4.bat
  obtain rfl : 13 = n4 := hO4.len
  clear hO4 hB4 HA3 hpk
  go_wp2_with fail
  have hof := of_any none 0 0 [] w4 (BAt.none w4) (Nat.le_refl _)
  rw [alN_code] at hof
  refine (hof).mono ?_
  rintro e w5 ⟨h5, _⟩
  obtain ⟨rfl, hB5⟩ := h5 (by decide)
  have HA5 := Lib.hid (HA4.out.below hB5); have HO5 := Lib.hid (HO4.out.below hB5)
  clear h5 hB5 HA4 HO4 hof
  have x0 : w5.cell? ⟨P, 0, none⟩ = some (.int .u8 0) := by rw [cell_of_row w5 _ 0 _ _ _ (HA5.out.x)]; rfl
  have x1 : w5.cell? ⟨P, 1, none⟩ = some (.int .u8 96) := by rw [cell_of_row w5 _ 1 _ _ _ (HA5.out.x)]; rfl
  have x2 : w5.cell? ⟨P, 2, none⟩ = some (.int .u8 0) := by rw [cell_of_row w5 _ 2 _ _ _ (HA5.out.x)]; rfl
  have x3 : w5.cell? ⟨P, 3, none⟩ = some (.int .u8 0) := by rw [cell_of_row w5 _ 3 _ _ _ (HA5.out.x)]; rfl
  have x4 : w5.cell? ⟨P, 4, none⟩ = some (.int .u8 0) := by rw [cell_of_row w5 _ 4 _ _ _ (HA5.out.x)]; rfl
  have x5 : w5.cell? ⟨P, 5, none⟩ = some (.int .u8 2) := by rw [cell_of_row w5 _ 5 _ _ _ (HA5.out.x)]; rfl
  have x6 : w5.cell? ⟨P, 6, none⟩ = some (.int .u8 0) := by rw [cell_of_row w5 _ 6 _ _ _ (HA5.out.x)]; rfl
  have x7 : w5.cell? ⟨P, 7, none⟩ = some (.int .u8 1) := by rw [cell_of_row w5 _ 7 _ _ _ (HA5.out.x)]; rfl
  have x8 : w5.cell? ⟨P, 8, none⟩ = some (.slice ax 1 cx) := by rw [cell_of_row w5 _ 8 _ _ _ (HA5.out.x)]; rfl
  have hPlt : P < w5.heap.size := (Array.getElem?_eq_some_iff.1 HA5.out.x).1
  go_wp2_with fail
  obtain ⟨Q, hQ⟩ : ∃ Q, w5.heap.size + 1 = Q := ⟨_, rfl⟩
  obtain ⟨w6, hw6⟩ : ∃ w6, (w5.alloc (.cells #[.int .u8 0, .int .u8 0, .int .u8 0, .int .u8 0, .int .u8 0, .int .u8 0, .int .u8 0, .int .u8 0, .slice none 0 0] 27)).alloc (.cells #[.int .u8 0, .int .u8 96, .int .u8 0, .int .u8 0, .int .u8 0, .int .u8 2, .int .u8 0, .int .u8 9, .slice ax 1 cx] 27) = w6 := ⟨_, rfl⟩
  have hC6 : C12 w P Q ax cx a4 w6 := by
    have h56 : Below w5.heap.size w5 w6 := by rw [← hw6]; exact ((Below.refl _ w5).alloc (Nat.le_refl _) _).alloc (by simp) _
    exact ⟨HA5.out.below h56, by rw [← hw6, ← hQ]; exact lit_new (by simp), HO5.out.below h56⟩
  have HC6 := Lib.hid hC6
  rw [hw6, hQ]
  clear hC6 hw6 hQ HA5 HO5 hPlt x0 x1 x2 x3 x4 x5 x6 x7 x8
  have hpk := packet_any 0 96 0 0 0 2 0 9 ax 1 cx [65] 1 3 w6 HC6.out.a.bd HCX.out (by omega) (by omega) (by omega) (by omega) (by omega) (by omega) (by omega) (by omega) (by omega) (by omega) (by omega)
  rw [al_pc2, al_po2] at hpk
  refine (hpk).mono ?_
  rintro e w7 ⟨a7, n7, c7, rfl, _, hB7⟩
  have HC7 := Lib.hid (HC6.out.below hB7)
  clear hB7 HC6 hpk
  have x0 : w7.cell? ⟨P, 0, none⟩ = some (.int .u8 0) := by rw [cell_of_row w7 _ 0 _ _ _ (HC7.out.a.x)]; rfl
  have x1 : w7.cell? ⟨P, 1, none⟩ = some (.int .u8 96) := by rw [cell_of_row w7 _ 1 _ _ _ (HC7.out.a.x)]; rfl
  have x2 : w7.cell? ⟨P, 2, none⟩ = some (.int .u8 0) := by rw [cell_of_row w7 _ 2 _ _ _ (HC7.out.a.x)]; rfl
  have x3 : w7.cell? ⟨P, 3, none⟩ = some (.int .u8 0) := by rw [cell_of_row w7 _ 3 _ _ _ (HC7.out.a.x)]; rfl
  have x4 : w7.cell? ⟨P, 4, none⟩ = some (.int .u8 0) := by rw [cell_of_row w7 _ 4 _ _ _ (HC7.out.a.x)]; rfl
  have x5 : w7.cell? ⟨P, 5, none⟩ = some (.int .u8 2) := by rw [cell_of_row w7 _ 5 _ _ _ (HC7.out.a.x)]; rfl
  have x6 : w7.cell? ⟨P, 6, none⟩ = some (.int .u8 0) := by rw [cell_of_row w7 _ 6 _ _ _ (HC7.out.a.x)]; rfl
  have x7 : w7.cell? ⟨P, 7, none⟩ = some (.int .u8 1) := by rw [cell_of_row w7 _ 7 _ _ _ (HC7.out.a.x)]; rfl
  have x8 : w7.cell? ⟨P, 8, none⟩ = some (.slice ax 1 cx) := by rw [cell_of_row w7 _ 8 _ _ _ (HC7.out.a.x)]; rfl
  go_wp2_with fail
  refine (al_add ax cx w7 HC7.out.a.bd).mono ?_
  rintro e w8 ⟨a8, c8, rfl, hO8, hB8⟩
  rw [al_b2] at hO8
  rw [al_b2, al_h2]
  have HC8 := Lib.hid (HC7.out.below hB8)
  have HO8 := Lib.hid hO8.bat
  clear hO8 hB8 HC7 x0 x1 x2 x3 x4 x5 x6 x7 x8
  simp only [List.length_cons, List.length_nil, Nat.zero_add, List.getD_cons_zero, List.getD_cons_succ]
  go_wp2_with fail
  obtain ⟨Z, hZ⟩ : ∃ Z, w8.heap.size = Z := ⟨_, rfl⟩
  obtain ⟨w9, hw9⟩ : ∃ w9, w8.alloc (.cells #[.int .u8 0, .int .u8 0, .int .u8 0, .int .u8 0, .int .u8 0, .int .u8 0, .int .u8 0, .int .u8 0, .slice a8 1 c8] 27) = w9 := ⟨_, rfl⟩
  have h89 : Below w8.heap.size w8 w9 := by rw [← hw9]; exact (Below.refl _ w8).alloc (Nat.le_refl _) _
  have HC9 := Lib.hid (HC8.out.below h89)
  have HZ9 : Hid (w9.heap[Z]? = some (.cells #[.int .u8 0, .int .u8 0, .int .u8 0, .int .u8 0, .int .u8 0, .int .u8 0, .int .u8 0, .int .u8 0, .slice a8 1 c8] 27 (0, 0))) := Lib.hid (by rw [← hw9, ← hZ]; exact lit_new rfl)
  have HO9 := Lib.hid (HO8.out.below h89)
  rw [hw9, hZ]
  clear h89 hw9 hZ HC8 HO8
  refine (al_fold P Q ax cx w9 HC9.out.a.bd HC9.out.a.x HC9.out.y).mono ?_
  rintro e w10 ⟨a9, c9, rfl, hO10, hB10⟩
  rw [al_b3] at hO10
  rw [al_b3, al_h3]
  have HC10 := Lib.hid (HC9.out.below hB10)
  have HZ10 := Lib.hid ((hB10.block _ (Array.getElem?_eq_some_iff.1 HZ9.out).1).trans HZ9.out)
  have HO10 := Lib.hid (HO9.out.below hB10)
  have HF10 := Lib.hid hO10.bat
  clear hO10 hB10 HC9 HZ9 HO9
  simp only [List.length_cons, List.length_nil, Nat.zero_add, List.getD_cons_zero, List.getD_cons_succ]
  obtain ⟨F, hF⟩ : ∃ F, w10.heap.size = F := ⟨_, rfl⟩
  obtain ⟨w11, hw11⟩ : ∃ w11, w10.alloc (.cells #[.int .u8 0, .int .u8 96, .int .u8 0, .int .u8 0, .int .u8 0, .int .u8 2, .int .u8 0, .int .u8 9, .slice a9 1 c9] 27) = w11 := ⟨_, rfl⟩
  have h1011 : Below w10.heap.size w10 w11 := by rw [← hw11]; exact (Below.refl _ w10).alloc (Nat.le_refl _) _
  have HD11 : Hid (D12 w P Q Z F ax cx a4 a8 a9 c8 c9 w11) := Lib.hid ⟨HC10.out.below h1011, (h1011.block _ (Array.getElem?_eq_some_iff.1 HZ10.out).1).trans HZ10.out, by rw [← hw11, ← hF]; exact lit_new rfl, HO10.out.below h1011, HF10.out.below h1011⟩
  have HW11 := Lib.hid hw11; have HFF := Lib.hid hF
  clear h1011 hw11 HC10 HZ10 HO10 HF10
  have hbuild : ∀ w, (Instr.build 25 #[(0, .int .u8 0), (1, .int .u8 96), (2, .int .u8 0), (3, .int .u8 0), (4, .int .u8 0), (5, .int .u8 2), (6, .int .u8 0), (7, .int .u8 1)]).run Try.prog w = .ok (.agg #[.int .u8 0, .int .u8 96, .int .u8 0, .int .u8 0, .int .u8 0, .int .u8 2, .int .u8 0, .int .u8 1]) w := fun w => run_build w _ _ _ (by kernel_rfl)
  have heq := fun w => eq8 0 96 0 0 0 2 0 1 0 96 0 0 0 2 0 1 w
  rw [decide_eq_true rfl] at heq
  obtain ⟨x0, x1, x2, x3, x4, x5, x6, x7, x8, y0, y1, y2, y3, y4, y5, y6, y7, y8, z0, z1, z2, z3, z4, z5, z6, z7, z8, f0, f1, f2, f3, f4, f5, f6, f7, f8⟩ := HD11.out.cs
  go_upto_region 10 with (fail)
  rw [HW11.out]
  clear HW11 hF HFF
  go_wp2_with fail
  have hsm := same_any a4 (some ⟨w.heap.size, 0, none⟩) 13 13 c4 13 alB alB w11 HD11.out.c.c HD11.out.c.a.b
  rw [decide_eq_true rfl] at hsm
  refine (hsm).mono ?_
  rintro e w12 ⟨rfl, k12, hk12⟩
  have HD12 := Lib.hid (HD11.out.below (show Below w11.heap.size w11 w12 by rw [hk12]; exact below_drewN _ _ _))
  clear hk12 hsm HD11 x0 x1 x2 x3 x4 x5 x6 x7 x8 y0 y1 y2 y3 y4 y5 y6 y7 y8 z0 z1 z2 z3 z4 z5 z6 z7 z8 f0 f1 f2 f3 f4 f5 f6 f7 f8
  obtain ⟨x0, x1, x2, x3, x4, x5, x6, x7, x8, y0, y1, y2, y3, y4, y5, y6, y7, y8, z0, z1, z2, z3, z4, z5, z6, z7, z8, f0, f1, f2, f3, f4, f5, f6, f7, f8⟩ := HD12.out.cs
  go_wp2_with fail
  have hcall := empty_any 0 0 0 0 0 0 0 0 a8 1 c8 [0] w12 HD12.out.zb
  rw [show (decide (([0, 0, 0, 0, 0, 0, 0, 0] : List Int) = [0, 0, 0, 0, 0, 0, 0, 0]) && decide (Str.gap [0] [] < 0)) = true by decide] at hcall
  refine (hcall).mono ?_
  rintro e w13 ⟨rfl, hB13⟩
  have HD13 := Lib.hid (HD12.out.below hB13)
  clear hcall hB13 HD12 x0 x1 x2 x3 x4 x5 x6 x7 x8 y0 y1 y2 y3 y4 y5 y6 y7 y8 z0 z1 z2 z3 z4 z5 z6 z7 z8 f0 f1 f2 f3 f4 f5 f6 f7 f8
  obtain ⟨x0, x1, x2, x3, x4, x5, x6, x7, x8, y0, y1, y2, y3, y4, y5, y6, y7, y8, z0, z1, z2, z3, z4, z5, z6, z7, z8, f0, f1, f2, f3, f4, f5, f6, f7, f8⟩ := HD13.out.cs
  go_wp2_with fail
  have hcall := empty_any 0 96 0 0 0 2 0 1 ax 1 cx [65] w13 HD13.out.c.a.bd
  rw [show (decide (([0, 96, 0, 0, 0, 2, 0, 1] : List Int) = [0, 0, 0, 0, 0, 0, 0, 0]) && decide (Str.gap [65] [] < 0)) = false by decide] at hcall
  refine (hcall).mono ?_
  rintro e w14 ⟨rfl, hB14⟩
  have HD14 := Lib.hid (HD13.out.below hB14)
  clear hcall hB14 HD13 x0 x1 x2 x3 x4 x5 x6 x7 x8 y0 y1 y2 y3 y4 y5 y6 y7 y8 z0 z1 z2 z3 z4 z5 z6 z7 z8 f0 f1 f2 f3 f4 f5 f6 f7 f8
  obtain ⟨x0, x1, x2, x3, x4, x5, x6, x7, x8, y0, y1, y2, y3, y4, y5, y6, y7, y8, z0, z1, z2, z3, z4, z5, z6, z7, z8, f0, f1, f2, f3, f4, f5, f6, f7, f8⟩ := HD14.out.cs
  go_wp2_with fail
  have hcall := length_any 0 96 0 0 0 2 0 9 ax 1 cx w14 (by omega) (by omega)
  rw [show ((0 : Int) * 256 + 9) = 9 by decide] at hcall
  refine (hcall).mono ?_
  rintro e w15 ⟨rfl, hB15⟩
  have HD15 := Lib.hid (HD14.out.below hB15)
  clear hcall hB15 HD14 x0 x1 x2 x3 x4 x5 x6 x7 x8 y0 y1 y2 y3 y4 y5 y6 y7 y8 z0 z1 z2 z3 z4 z5 z6 z7 z8 f0 f1 f2 f3 f4 f5 f6 f7 f8
  obtain ⟨x0, x1, x2, x3, x4, x5, x6, x7, x8, y0, y1, y2, y3, y4, y5, y6, y7, y8, z0, z1, z2, z3, z4, z5, z6, z7, z8, f0, f1, f2, f3, f4, f5, f6, f7, f8⟩ := HD15.out.cs
  go_wp2_with fail
  have hcall := isame_any 0 96 0 0 0 2 0 9 0 96 0 0 0 2 0 9 a9 ax 1 1 c9 cx [65] [65] w15 HD15.out.fb HD15.out.c.a.bd
  rw [show (decide (([0, 96, 0, 0, 0, 2, 0, 9] : List Int) = [0, 96, 0, 0, 0, 2, 0, 9]) && decide (Str.gap [65] [65] < 0)) = true by decide] at hcall
  refine (hcall).mono ?_
  rintro e w16 ⟨rfl, hB16⟩
  have HD16 := Lib.hid (HD15.out.below hB16)
  clear hcall hB16 HD15 x0 x1 x2 x3 x4 x5 x6 x7 x8 y0 y1 y2 y3 y4 y5 y6 y7 y8 z0 z1 z2 z3 z4 z5 z6 z7 z8 f0 f1 f2 f3 f4 f5 f6 f7 f8
  obtain ⟨x0, x1, x2, x3, x4, x5, x6, x7, x8, y0, y1, y2, y3, y4, y5, y6, y7, y8, z0, z1, z2, z3, z4, z5, z6, z7, z8, f0, f1, f2, f3, f4, f5, f6, f7, f8⟩ := HD16.out.cs
  go_wp2_with fail
  have hcall := isame_any 0 96 0 0 0 2 0 1 0 96 0 0 0 2 0 9 ax ax 1 1 cx cx [65] [65] w16 HD16.out.c.a.bd HD16.out.c.a.bd
  rw [show (decide (([0, 96, 0, 0, 0, 2, 0, 1] : List Int) = [0, 96, 0, 0, 0, 2, 0, 9]) && decide (Str.gap [65] [65] < 0)) = false by decide] at hcall
  refine (hcall).mono ?_
  rintro e w17 ⟨rfl, hB17⟩
  have HFIN : Hid (ValB (.bool true) w (.returned (.bool true)) w17) := Lib.hid ⟨rfl, (HD16.out.below hB17).c.a.low⟩
  clear hcall hB17 HD16 x0 x1 x2 x3 x4 x5 x6 x7 x8 y0 y1 y2 y3 y4 y5 y6 y7 y8 z0 z1 z2 z3 z4 z5 z6 z7 z8 f0 f1 f2 f3 f4 f5 f6 f7 f8 heq hbuild
  go_wp2_with fail
  go_ret
  exact HFIN.out
end Go.Proofs.Ytppgjodehphaeaa

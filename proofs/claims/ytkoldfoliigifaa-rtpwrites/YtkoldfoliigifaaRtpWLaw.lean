
/-
  RtpWrites: the walk.
-/
import Derived.Test.YtkoldfoliigifaaRtpWLaw0
import Derived.Deep.RegionHeld3
namespace Go.Proofs.Ytkoldfoliigifaa
open Go.RowKit Go.Shelf
set_option linter.unusedVariables false
set_option linter.unusedSimpArgs false
attribute [local go_sem] Oper.semAt_some
structure B2 (w W : World) (a b : Array Value) : Prop where
  b1 : W.heap[w.heap.size]? = some (.cells a 27 (0, 0))
  b2 : W.heap[w.heap.size + 1]? = some (.cells b 27 (0, 0))
  low : Below w.heap.size w W
theorem B2.below {w W W' : World} {a b : Array Value} (h : B2 w W a b) (hb : Below W.heap.size W W') : B2 w W' a b :=
  ⟨(hb.block _ (Array.getElem?_eq_some_iff.1 h.b1).1).trans h.b1, (hb.block _ (Array.getElem?_eq_some_iff.1 h.b2).1).trans h.b2, h.low.trans (hb.mono h.low.size)⟩
theorem B2.start (w : World) (a b : Array Value) : B2 w ((w.alloc (.cells a 27)).alloc (.cells b 27)) a b :=
  ⟨lit_old rfl, lit_new (by simp), ((Below.refl _ w).alloc (Nat.le_refl _) _).alloc (by simp) _⟩
theorem B2.cs {w W : World} {m h m2 h2 : Bool} {pt sq ts ss pr pt2 sq2 ts2 ss2 pr2 : Int} {ac ae ap ad ac2 ae2 ap2 ad2 : Option Addr} {nc cc ne ce np cp nd cd nc2 cc2 ne2 ce2 np2 cp2 nd2 cd2 : Nat} (hB : B2 w W #[.bool m, .int .i64 pt, .int .u16 sq, .int .u32 ts, .int .u32 ss, .slice ac nc cc, .bool h, .int .u16 pr, .slice ae ne ce, .slice ap np cp, .slice ad nd cd] #[.bool m2, .int .i64 pt2, .int .u16 sq2, .int .u32 ts2, .int .u32 ss2, .slice ac2 nc2 cc2, .bool h2, .int .u16 pr2, .slice ae2 ne2 ce2, .slice ap2 np2 cp2, .slice ad2 nd2 cd2]) : W.cell? ⟨w.heap.size, 0, none⟩ = some (.bool m) ∧ W.cell? ⟨w.heap.size, 1, none⟩ = some (.int .i64 pt) ∧ W.cell? ⟨w.heap.size, 2, none⟩ = some (.int .u16 sq) ∧ W.cell? ⟨w.heap.size, 3, none⟩ = some (.int .u32 ts) ∧ W.cell? ⟨w.heap.size, 4, none⟩ = some (.int .u32 ss) ∧ W.cell? ⟨w.heap.size, 5, none⟩ = some (.slice ac nc cc) ∧ W.cell? ⟨w.heap.size, 6, none⟩ = some (.bool h) ∧ W.cell? ⟨w.heap.size, 7, none⟩ = some (.int .u16 pr) ∧ W.cell? ⟨w.heap.size, 8, none⟩ = some (.slice ae ne ce) ∧ W.cell? ⟨w.heap.size, 9, none⟩ = some (.slice ap np cp) ∧ W.cell? ⟨w.heap.size, 10, none⟩ = some (.slice ad nd cd) ∧ W.cell? ⟨w.heap.size + 1, 0, none⟩ = some (.bool m2) ∧ W.cell? ⟨w.heap.size + 1, 1, none⟩ = some (.int .i64 pt2) ∧ W.cell? ⟨w.heap.size + 1, 2, none⟩ = some (.int .u16 sq2) ∧ W.cell? ⟨w.heap.size + 1, 3, none⟩ = some (.int .u32 ts2) ∧ W.cell? ⟨w.heap.size + 1, 4, none⟩ = some (.int .u32 ss2) ∧ W.cell? ⟨w.heap.size + 1, 5, none⟩ = some (.slice ac2 nc2 cc2) ∧ W.cell? ⟨w.heap.size + 1, 6, none⟩ = some (.bool h2) ∧ W.cell? ⟨w.heap.size + 1, 7, none⟩ = some (.int .u16 pr2) ∧ W.cell? ⟨w.heap.size + 1, 8, none⟩ = some (.slice ae2 ne2 ce2) ∧ W.cell? ⟨w.heap.size + 1, 9, none⟩ = some (.slice ap2 np2 cp2) ∧ W.cell? ⟨w.heap.size + 1, 10, none⟩ = some (.slice ad2 nd2 cd2) := by
  refine ⟨?_, ?_, ?_, ?_, ?_, ?_, ?_, ?_, ?_, ?_, ?_, ?_, ?_, ?_, ?_, ?_, ?_, ?_, ?_, ?_, ?_, ?_⟩
  iterate 11 (rw [cell_of_row W _ _ _ _ _ hB.b1]; rfl)
  iterate 11 (rw [cell_of_row W _ _ _ _ _ hB.b2]; rfl)
set_option maxHeartbeats 4000000 in
set_option maxRecDepth 100000 in
theorem walk_RtpWrites (p q : Pk) (s t : Pl) (w : World) (hp : PkAt w p s) (hq : PkAt w q t) :
    Calls Try.prog 3 #[.agg (pkc p s), .agg (pkc q t)] w (TrueB w) := by
  have HX0 := Lib.hid (B2.start w (pkc p s) (pkc q t))
  have HFEW1 : Hid (∀ W, Calls Try.prog 5 #[.agg (pkc p s)] W (ValB (.bool (few s)) W)) := Lib.hid fun W => few_any p s W
  have HFEW2 : Hid (∀ W, Calls Try.prog 5 #[.agg (pkc q t)] W (ValB (.bool (few t)) W)) := Lib.hid fun W => few_any q t W
  have HWR : Hid (few s = true → ∀ W, Below w.heap.size w W → Calls Try.prog 6 #[.agg (pkc p s)] W (WrOut (wcode p s) (wbytes p s) W)) := Lib.hid fun hf W hB => write5_any p s W (hp.below hB) (few_sm hf)
  have HRW : Hid (few s = true → ∀ W, Below w.heap.size w W → Calls Try.prog 7 #[.agg (pkc p s)] W (WrOut (wcode p s) (wbytes p s) W)) := Lib.hid fun hf W hB => rwrite5_any p s W (hp.below hB) (few_sm hf) (by unfold few at hf; simp at hf; omega)
  have HSZ : Hid (few s = true → ∀ W, Calls Try.prog 9 #[.agg (pkc p s)] W (ValB (.int .i64 (sz p s : Nat)) W)) := Lib.hid fun hf W => size_any p s W (few_sm hf)
  have HRZ : Hid (few s = true → ∀ W, Calls Try.prog 10 #[.agg (pkc p s)] W (ValB (.int .i64 (sz p s : Nat)) W)) := Lib.hid fun hf W => rsize_any p s W (few_sm hf)
  have HSA : Hid (few s = true → few t = true → ∀ W, Below w.heap.size w W → Calls Try.prog 11 #[.agg (pkc p s), .agg (pkc q t)] W (ValB (.bool (pkEq p q)) W)) := Lib.hid fun hf hg W hB => same5_any p q s t W (hp.below hB) (hq.below hB) (few_sm hf) (few_sm hg)
  have HRS : Hid (few s = true → few t = true → ∀ W, Below w.heap.size w W → Calls Try.prog 12 #[.agg (pkc p s), .agg (pkc q t)] W (ValB (.bool (pkEq p q)) W)) := Lib.hid fun hf hg W hB => rsame5_any p q s t W (hp.below hB) (hq.below hB) (few_sm hf) (few_sm hg)
  have HCL : Hid (few s = true → ∀ W, Below w.heap.size w W → Calls Try.prog 13 #[.agg (pkc p s)] W (fun e w' => ∃ s2, e = .returned (.agg (pkc p s2)) ∧ Below W.heap.size W w' ∧ ∀ W', Below w'.heap.size w' W' → Calls Try.prog 11 #[.agg (pkc p s), .agg (pkc p s2)] W' (ValB (.bool true) W'))) := Lib.hid fun hf W hB => (clone_any p s W (hp.below hB) (few_sm hf)).mono fun e w' ⟨a1, c1, a2, c2, a3, c3, a4, c4, he, hO, hB'⟩ => ⟨_, he, hB', fun W' hW' => by
    have h1 := same5_any p p s _ W' (((hp.below hB).below hB').below hW') (hO.in.at.below hW') (few_sm hf) (few_sm hf)
    rwa [pkEq_self] at h1⟩
  have hcb : 0 ≤ wcode p s ∧ wcode p s ≤ 3 := by unfold wcode; repeat' split
                                                 all_goals omega
  clear hp hq
  generalize few s = fs at *
  generalize few t = ft at *
  generalize wcode p s = f at *
  generalize wbytes p s = R at *
  generalize sz p s = z at *
  generalize pkEq p q = b at *
  obtain ⟨m, pt, sq, ts, ss, cs, h, pr, ex, py, pd⟩ := p
  obtain ⟨ac, nc, cc, ae, ne, ce, ap, np, cp, ad, nd, cd⟩ := s
  obtain ⟨m2, pt2, sq2, ts2, ss2, cs2, h2, pr2, ex2, py2, pd2⟩ := q
  obtain ⟨ac2, nc2, cc2, ae2, ne2, ce2, ap2, np2, cp2, ad2, nd2, cd2⟩ := t
  simp only [pkc] at HX0 HFEW1 HFEW2 HWR HRW HSZ HRZ HSA HRS HCL ⊢
  have hff : (f == f) = true := by simp
  have hwf : IntKind.i64.wrap f = f := by rw [IntKind.wrap_i64]; omega
  have hzz : ((z : Int) == (z : Int)) = true := by simp
  have hbb : (b == b) = true := by cases b <;> rfl
  go_enter Try.func3, Try.ntmps3
  go_wp2_with fail
  refine (alive5 _).mono ?_
  rintro e w1 ⟨rfl, hB1⟩
  have HX1 := Lib.hid (HX0.out.below hB1)
  clear hB1 HX0
  obtain ⟨d0, d1, d2, d3, d4, d5, d6, d7, d8, d9, d10, d11, d12, d13, d14, d15, d16, d17, d18, d19, d20, d21⟩ := HX1.out.cs
  go_wp2_with fail
  refine (HFEW1.out _).mono ?_
  rintro e w2 ⟨rfl, hB2⟩
  have HX2 := Lib.hid (HX1.out.below hB2)
  clear hB2 HX1 d0 d1 d2 d3 d4 d5 d6 d7 d8 d9 d10 d11 d12 d13 d14 d15 d16 d17 d18 d19 d20 d21
  cases fs
  case false =>
    go_wp2_with fail
    go_ret
    exact ⟨rfl, HX2.out.low⟩
  obtain ⟨d0, d1, d2, d3, d4, d5, d6, d7, d8, d9, d10, d11, d12, d13, d14, d15, d16, d17, d18, d19, d20, d21⟩ := HX2.out.cs
  go_wp2_with fail
  refine (HFEW2.out _).mono ?_
  rintro e w3 ⟨rfl, hB3⟩
  have HX3 := Lib.hid (HX2.out.below hB3)
  clear hB3 HX2 d0 d1 d2 d3 d4 d5 d6 d7 d8 d9 d10 d11 d12 d13 d14 d15 d16 d17 d18 d19 d20 d21
  cases ft
  case false =>
    go_wp2_with fail
    go_ret
    exact ⟨rfl, HX3.out.low⟩
  have HWR1 := Lib.hid (HWR.out (by trivial)); have HRW1 := Lib.hid (HRW.out (by trivial)); have HSZ1 := Lib.hid (HSZ.out (by trivial)); have HRZ1 := Lib.hid (HRZ.out (by trivial)); have HSA1 := Lib.hid (HSA.out (by trivial) (by trivial)); have HRS1 := Lib.hid (HRS.out (by trivial) (by trivial)); have HCL1 := Lib.hid (HCL.out (by trivial))
  clear HWR HRW HSZ HRZ HSA HRS HCL HFEW1 HFEW2
  obtain ⟨d0, d1, d2, d3, d4, d5, d6, d7, d8, d9, d10, d11, d12, d13, d14, d15, d16, d17, d18, d19, d20, d21⟩ := HX3.out.cs
  go_wp2_with fail
  refine (HWR1.out _ HX3.out.low).mono ?_
  rintro e w4 ⟨a4, n4, c4, rfl, hO4, hB4⟩
  have HX4 := Lib.hid (HX3.out.below hB4)
  have HO4 := Lib.hid hO4
  clear hB4 hO4 HX3 HWR1 d0 d1 d2 d3 d4 d5 d6 d7 d8 d9 d10 d11 d12 d13 d14 d15 d16 d17 d18 d19 d20 d21
  obtain ⟨d0, d1, d2, d3, d4, d5, d6, d7, d8, d9, d10, d11, d12, d13, d14, d15, d16, d17, d18, d19, d20, d21⟩ := HX4.out.cs
  go_wp2_with fail
  refine (HRW1.out _ HX4.out.low).mono ?_
  rintro e w5 ⟨a5, n5, c5, rfl, hO5, hB5⟩
  have HX5 := Lib.hid (HX4.out.below hB5)
  have HSM : Hid (∀ W, Below w5.heap.size w5 W → Calls Try.prog 8 #[.slice a4 n4 c4, .slice a5 n5 c5] W (Drawn (.bool true) W)) := Lib.hid fun W hW => by
    have := same_any a4 a5 n4 n5 c4 c5 R R W ((HO4.out.bat.below hB5).below hW) (hO5.bat.below hW)
    simpa using this
  clear hB5 hO5 HO4 HX4 HRW1 d0 d1 d2 d3 d4 d5 d6 d7 d8 d9 d10 d11 d12 d13 d14 d15 d16 d17 d18 d19 d20 d21
  obtain ⟨d0, d1, d2, d3, d4, d5, d6, d7, d8, d9, d10, d11, d12, d13, d14, d15, d16, d17, d18, d19, d20, d21⟩ := HX5.out.cs
  go_wp2_with fail
  clear d0 d1 d2 d3 d4 d5 d6 d7 d8 d9 d10 d11 d12 d13 d14 d15 d16 d17 d18 d19 d20 d21
  have SB : Hid (∀ W, Below w5.heap.size w5 W → (W.cell? ⟨w.heap.size, 0, none⟩ = some (.bool m) ∧ W.cell? ⟨w.heap.size, 1, none⟩ = some (.int .i64 pt) ∧ W.cell? ⟨w.heap.size, 2, none⟩ = some (.int .u16 sq) ∧ W.cell? ⟨w.heap.size, 3, none⟩ = some (.int .u32 ts) ∧ W.cell? ⟨w.heap.size, 4, none⟩ = some (.int .u32 ss) ∧ W.cell? ⟨w.heap.size, 5, none⟩ = some (.slice ac nc cc) ∧ W.cell? ⟨w.heap.size, 6, none⟩ = some (.bool h) ∧ W.cell? ⟨w.heap.size, 7, none⟩ = some (.int .u16 pr) ∧ W.cell? ⟨w.heap.size, 8, none⟩ = some (.slice ae ne ce) ∧ W.cell? ⟨w.heap.size, 9, none⟩ = some (.slice ap np cp) ∧ W.cell? ⟨w.heap.size, 10, none⟩ = some (.slice ad nd cd) ∧ W.cell? ⟨w.heap.size + 1, 0, none⟩ = some (.bool m2) ∧ W.cell? ⟨w.heap.size + 1, 1, none⟩ = some (.int .i64 pt2) ∧ W.cell? ⟨w.heap.size + 1, 2, none⟩ = some (.int .u16 sq2) ∧ W.cell? ⟨w.heap.size + 1, 3, none⟩ = some (.int .u32 ts2) ∧ W.cell? ⟨w.heap.size + 1, 4, none⟩ = some (.int .u32 ss2) ∧ W.cell? ⟨w.heap.size + 1, 5, none⟩ = some (.slice ac2 nc2 cc2) ∧ W.cell? ⟨w.heap.size + 1, 6, none⟩ = some (.bool h2) ∧ W.cell? ⟨w.heap.size + 1, 7, none⟩ = some (.int .u16 pr2) ∧ W.cell? ⟨w.heap.size + 1, 8, none⟩ = some (.slice ae2 ne2 ce2) ∧ W.cell? ⟨w.heap.size + 1, 9, none⟩ = some (.slice ap2 np2 cp2) ∧ W.cell? ⟨w.heap.size + 1, 10, none⟩ = some (.slice ad2 nd2 cd2) ∧ Below w5.heap.size w5 W)) := Lib.hid fun W hB => by
    obtain ⟨d0, d1, d2, d3, d4, d5, d6, d7, d8, d9, d10, d11, d12, d13, d14, d15, d16, d17, d18, d19, d20, d21⟩ := (HX5.out.below hB).cs
    exact ⟨d0, d1, d2, d3, d4, d5, d6, d7, d8, d9, d10, d11, d12, d13, d14, d15, d16, d17, d18, d19, d20, d21, hB⟩
  have SD : Hid (∀ W, (W.cell? ⟨w.heap.size, 0, none⟩ = some (.bool m) ∧ W.cell? ⟨w.heap.size, 1, none⟩ = some (.int .i64 pt) ∧ W.cell? ⟨w.heap.size, 2, none⟩ = some (.int .u16 sq) ∧ W.cell? ⟨w.heap.size, 3, none⟩ = some (.int .u32 ts) ∧ W.cell? ⟨w.heap.size, 4, none⟩ = some (.int .u32 ss) ∧ W.cell? ⟨w.heap.size, 5, none⟩ = some (.slice ac nc cc) ∧ W.cell? ⟨w.heap.size, 6, none⟩ = some (.bool h) ∧ W.cell? ⟨w.heap.size, 7, none⟩ = some (.int .u16 pr) ∧ W.cell? ⟨w.heap.size, 8, none⟩ = some (.slice ae ne ce) ∧ W.cell? ⟨w.heap.size, 9, none⟩ = some (.slice ap np cp) ∧ W.cell? ⟨w.heap.size, 10, none⟩ = some (.slice ad nd cd) ∧ W.cell? ⟨w.heap.size + 1, 0, none⟩ = some (.bool m2) ∧ W.cell? ⟨w.heap.size + 1, 1, none⟩ = some (.int .i64 pt2) ∧ W.cell? ⟨w.heap.size + 1, 2, none⟩ = some (.int .u16 sq2) ∧ W.cell? ⟨w.heap.size + 1, 3, none⟩ = some (.int .u32 ts2) ∧ W.cell? ⟨w.heap.size + 1, 4, none⟩ = some (.int .u32 ss2) ∧ W.cell? ⟨w.heap.size + 1, 5, none⟩ = some (.slice ac2 nc2 cc2) ∧ W.cell? ⟨w.heap.size + 1, 6, none⟩ = some (.bool h2) ∧ W.cell? ⟨w.heap.size + 1, 7, none⟩ = some (.int .u16 pr2) ∧ W.cell? ⟨w.heap.size + 1, 8, none⟩ = some (.slice ae2 ne2 ce2) ∧ W.cell? ⟨w.heap.size + 1, 9, none⟩ = some (.slice ap2 np2 cp2) ∧ W.cell? ⟨w.heap.size + 1, 10, none⟩ = some (.slice ad2 nd2 cd2) ∧ Below w5.heap.size w5 W) → (W.drew.cell? ⟨w.heap.size, 0, none⟩ = some (.bool m) ∧ W.drew.cell? ⟨w.heap.size, 1, none⟩ = some (.int .i64 pt) ∧ W.drew.cell? ⟨w.heap.size, 2, none⟩ = some (.int .u16 sq) ∧ W.drew.cell? ⟨w.heap.size, 3, none⟩ = some (.int .u32 ts) ∧ W.drew.cell? ⟨w.heap.size, 4, none⟩ = some (.int .u32 ss) ∧ W.drew.cell? ⟨w.heap.size, 5, none⟩ = some (.slice ac nc cc) ∧ W.drew.cell? ⟨w.heap.size, 6, none⟩ = some (.bool h) ∧ W.drew.cell? ⟨w.heap.size, 7, none⟩ = some (.int .u16 pr) ∧ W.drew.cell? ⟨w.heap.size, 8, none⟩ = some (.slice ae ne ce) ∧ W.drew.cell? ⟨w.heap.size, 9, none⟩ = some (.slice ap np cp) ∧ W.drew.cell? ⟨w.heap.size, 10, none⟩ = some (.slice ad nd cd) ∧ W.drew.cell? ⟨w.heap.size + 1, 0, none⟩ = some (.bool m2) ∧ W.drew.cell? ⟨w.heap.size + 1, 1, none⟩ = some (.int .i64 pt2) ∧ W.drew.cell? ⟨w.heap.size + 1, 2, none⟩ = some (.int .u16 sq2) ∧ W.drew.cell? ⟨w.heap.size + 1, 3, none⟩ = some (.int .u32 ts2) ∧ W.drew.cell? ⟨w.heap.size + 1, 4, none⟩ = some (.int .u32 ss2) ∧ W.drew.cell? ⟨w.heap.size + 1, 5, none⟩ = some (.slice ac2 nc2 cc2) ∧ W.drew.cell? ⟨w.heap.size + 1, 6, none⟩ = some (.bool h2) ∧ W.drew.cell? ⟨w.heap.size + 1, 7, none⟩ = some (.int .u16 pr2) ∧ W.drew.cell? ⟨w.heap.size + 1, 8, none⟩ = some (.slice ae2 ne2 ce2) ∧ W.drew.cell? ⟨w.heap.size + 1, 9, none⟩ = some (.slice ap2 np2 cp2) ∧ W.drew.cell? ⟨w.heap.size + 1, 10, none⟩ = some (.slice ad2 nd2 cd2) ∧ Below w5.heap.size w5 W.drew)) := Lib.hid fun W h => by
    obtain ⟨_, _, _, _, _, _, _, _, _, _, _, _, _, _, _, _, _, _, _, _, _, _, hBL⟩ := h
    exact SB.out _ (hBL.drew)
  have BT : Hid (∀ W W', (W.cell? ⟨w.heap.size, 0, none⟩ = some (.bool m) ∧ W.cell? ⟨w.heap.size, 1, none⟩ = some (.int .i64 pt) ∧ W.cell? ⟨w.heap.size, 2, none⟩ = some (.int .u16 sq) ∧ W.cell? ⟨w.heap.size, 3, none⟩ = some (.int .u32 ts) ∧ W.cell? ⟨w.heap.size, 4, none⟩ = some (.int .u32 ss) ∧ W.cell? ⟨w.heap.size, 5, none⟩ = some (.slice ac nc cc) ∧ W.cell? ⟨w.heap.size, 6, none⟩ = some (.bool h) ∧ W.cell? ⟨w.heap.size, 7, none⟩ = some (.int .u16 pr) ∧ W.cell? ⟨w.heap.size, 8, none⟩ = some (.slice ae ne ce) ∧ W.cell? ⟨w.heap.size, 9, none⟩ = some (.slice ap np cp) ∧ W.cell? ⟨w.heap.size, 10, none⟩ = some (.slice ad nd cd) ∧ W.cell? ⟨w.heap.size + 1, 0, none⟩ = some (.bool m2) ∧ W.cell? ⟨w.heap.size + 1, 1, none⟩ = some (.int .i64 pt2) ∧ W.cell? ⟨w.heap.size + 1, 2, none⟩ = some (.int .u16 sq2) ∧ W.cell? ⟨w.heap.size + 1, 3, none⟩ = some (.int .u32 ts2) ∧ W.cell? ⟨w.heap.size + 1, 4, none⟩ = some (.int .u32 ss2) ∧ W.cell? ⟨w.heap.size + 1, 5, none⟩ = some (.slice ac2 nc2 cc2) ∧ W.cell? ⟨w.heap.size + 1, 6, none⟩ = some (.bool h2) ∧ W.cell? ⟨w.heap.size + 1, 7, none⟩ = some (.int .u16 pr2) ∧ W.cell? ⟨w.heap.size + 1, 8, none⟩ = some (.slice ae2 ne2 ce2) ∧ W.cell? ⟨w.heap.size + 1, 9, none⟩ = some (.slice ap2 np2 cp2) ∧ W.cell? ⟨w.heap.size + 1, 10, none⟩ = some (.slice ad2 nd2 cd2) ∧ Below w5.heap.size w5 W) → Below W.heap.size W W' → Below w5.heap.size w5 W') := Lib.hid fun W W' h hb => by
    obtain ⟨_, _, _, _, _, _, _, _, _, _, _, _, _, _, _, _, _, _, _, _, _, _, hBL⟩ := h
    exact hBL.trans (hb.mono hBL.size)
  have LW5 : Hid (∀ W, (W.cell? ⟨w.heap.size, 0, none⟩ = some (.bool m) ∧ W.cell? ⟨w.heap.size, 1, none⟩ = some (.int .i64 pt) ∧ W.cell? ⟨w.heap.size, 2, none⟩ = some (.int .u16 sq) ∧ W.cell? ⟨w.heap.size, 3, none⟩ = some (.int .u32 ts) ∧ W.cell? ⟨w.heap.size, 4, none⟩ = some (.int .u32 ss) ∧ W.cell? ⟨w.heap.size, 5, none⟩ = some (.slice ac nc cc) ∧ W.cell? ⟨w.heap.size, 6, none⟩ = some (.bool h) ∧ W.cell? ⟨w.heap.size, 7, none⟩ = some (.int .u16 pr) ∧ W.cell? ⟨w.heap.size, 8, none⟩ = some (.slice ae ne ce) ∧ W.cell? ⟨w.heap.size, 9, none⟩ = some (.slice ap np cp) ∧ W.cell? ⟨w.heap.size, 10, none⟩ = some (.slice ad nd cd) ∧ W.cell? ⟨w.heap.size + 1, 0, none⟩ = some (.bool m2) ∧ W.cell? ⟨w.heap.size + 1, 1, none⟩ = some (.int .i64 pt2) ∧ W.cell? ⟨w.heap.size + 1, 2, none⟩ = some (.int .u16 sq2) ∧ W.cell? ⟨w.heap.size + 1, 3, none⟩ = some (.int .u32 ts2) ∧ W.cell? ⟨w.heap.size + 1, 4, none⟩ = some (.int .u32 ss2) ∧ W.cell? ⟨w.heap.size + 1, 5, none⟩ = some (.slice ac2 nc2 cc2) ∧ W.cell? ⟨w.heap.size + 1, 6, none⟩ = some (.bool h2) ∧ W.cell? ⟨w.heap.size + 1, 7, none⟩ = some (.int .u16 pr2) ∧ W.cell? ⟨w.heap.size + 1, 8, none⟩ = some (.slice ae2 ne2 ce2) ∧ W.cell? ⟨w.heap.size + 1, 9, none⟩ = some (.slice ap2 np2 cp2) ∧ W.cell? ⟨w.heap.size + 1, 10, none⟩ = some (.slice ad2 nd2 cd2) ∧ Below w5.heap.size w5 W) → Below w.heap.size w W) := Lib.hid fun W h => by
    obtain ⟨_, _, _, _, _, _, _, _, _, _, _, _, _, _, _, _, _, _, _, _, _, _, hBL⟩ := h
    exact HX5.out.low.trans (hBL.mono HX5.out.low.size)
  have L5 : Hid (∀ W, (W.cell? ⟨w.heap.size, 0, none⟩ = some (.bool m) ∧ W.cell? ⟨w.heap.size, 1, none⟩ = some (.int .i64 pt) ∧ W.cell? ⟨w.heap.size, 2, none⟩ = some (.int .u16 sq) ∧ W.cell? ⟨w.heap.size, 3, none⟩ = some (.int .u32 ts) ∧ W.cell? ⟨w.heap.size, 4, none⟩ = some (.int .u32 ss) ∧ W.cell? ⟨w.heap.size, 5, none⟩ = some (.slice ac nc cc) ∧ W.cell? ⟨w.heap.size, 6, none⟩ = some (.bool h) ∧ W.cell? ⟨w.heap.size, 7, none⟩ = some (.int .u16 pr) ∧ W.cell? ⟨w.heap.size, 8, none⟩ = some (.slice ae ne ce) ∧ W.cell? ⟨w.heap.size, 9, none⟩ = some (.slice ap np cp) ∧ W.cell? ⟨w.heap.size, 10, none⟩ = some (.slice ad nd cd) ∧ W.cell? ⟨w.heap.size + 1, 0, none⟩ = some (.bool m2) ∧ W.cell? ⟨w.heap.size + 1, 1, none⟩ = some (.int .i64 pt2) ∧ W.cell? ⟨w.heap.size + 1, 2, none⟩ = some (.int .u16 sq2) ∧ W.cell? ⟨w.heap.size + 1, 3, none⟩ = some (.int .u32 ts2) ∧ W.cell? ⟨w.heap.size + 1, 4, none⟩ = some (.int .u32 ss2) ∧ W.cell? ⟨w.heap.size + 1, 5, none⟩ = some (.slice ac2 nc2 cc2) ∧ W.cell? ⟨w.heap.size + 1, 6, none⟩ = some (.bool h2) ∧ W.cell? ⟨w.heap.size + 1, 7, none⟩ = some (.int .u16 pr2) ∧ W.cell? ⟨w.heap.size + 1, 8, none⟩ = some (.slice ae2 ne2 ce2) ∧ W.cell? ⟨w.heap.size + 1, 9, none⟩ = some (.slice ap2 np2 cp2) ∧ W.cell? ⟨w.heap.size + 1, 10, none⟩ = some (.slice ad2 nd2 cd2) ∧ Below w5.heap.size w5 W) → Below w5.heap.size w5 W) := Lib.hid fun W h => by
    obtain ⟨_, _, _, _, _, _, _, _, _, _, _, _, _, _, _, _, _, _, _, _, _, _, hBL⟩ := h
    exact hBL
  have HSM1 : Hid (∀ W, Below w5.heap.size w5 W → Calls Try.prog 8 #[.slice a4 n4 c4, .slice a5 n5 c5] W (ValB (.bool true) W)) := Lib.hid fun W hW => (HSM.out W hW).mono fun e w' ⟨he, k, hk⟩ => ⟨he, by rw [hk]; exact below_drewN W _ k⟩
  have hS5 := SB.out w5 (Below.refl _ _)
  have HL5 := Lib.hid HX5.out.low
  clear HSM HX5
  go_region_held3 (fun W => (W.cell? ⟨w.heap.size, 0, none⟩ = some (.bool m) ∧ W.cell? ⟨w.heap.size, 1, none⟩ = some (.int .i64 pt) ∧ W.cell? ⟨w.heap.size, 2, none⟩ = some (.int .u16 sq) ∧ W.cell? ⟨w.heap.size, 3, none⟩ = some (.int .u32 ts) ∧ W.cell? ⟨w.heap.size, 4, none⟩ = some (.int .u32 ss) ∧ W.cell? ⟨w.heap.size, 5, none⟩ = some (.slice ac nc cc) ∧ W.cell? ⟨w.heap.size, 6, none⟩ = some (.bool h) ∧ W.cell? ⟨w.heap.size, 7, none⟩ = some (.int .u16 pr) ∧ W.cell? ⟨w.heap.size, 8, none⟩ = some (.slice ae ne ce) ∧ W.cell? ⟨w.heap.size, 9, none⟩ = some (.slice ap np cp) ∧ W.cell? ⟨w.heap.size, 10, none⟩ = some (.slice ad nd cd) ∧ W.cell? ⟨w.heap.size + 1, 0, none⟩ = some (.bool m2) ∧ W.cell? ⟨w.heap.size + 1, 1, none⟩ = some (.int .i64 pt2) ∧ W.cell? ⟨w.heap.size + 1, 2, none⟩ = some (.int .u16 sq2) ∧ W.cell? ⟨w.heap.size + 1, 3, none⟩ = some (.int .u32 ts2) ∧ W.cell? ⟨w.heap.size + 1, 4, none⟩ = some (.int .u32 ss2) ∧ W.cell? ⟨w.heap.size + 1, 5, none⟩ = some (.slice ac2 nc2 cc2) ∧ W.cell? ⟨w.heap.size + 1, 6, none⟩ = some (.bool h2) ∧ W.cell? ⟨w.heap.size + 1, 7, none⟩ = some (.int .u16 pr2) ∧ W.cell? ⟨w.heap.size + 1, 8, none⟩ = some (.slice ae2 ne2 ce2) ∧ W.cell? ⟨w.heap.size + 1, 9, none⟩ = some (.slice ap2 np2 cp2) ∧ W.cell? ⟨w.heap.size + 1, 10, none⟩ = some (.slice ad2 nd2 cd2) ∧ Below w5.heap.size w5 W))
    (first | with_reducible assumption | with_reducible exact SD.out _ (by with_reducible assumption) | with_reducible exact SB.out _ (by with_reducible assumption))
    (first
      | (go_at_call 8; refine (HSM1.out _ (L5.out _ (by with_reducible assumption))).mono ?_; rintro e w6 ⟨rfl, hB⟩; with_reducible have hBn6 := BT.out _ _ (by with_reducible assumption) hB; clear hB)
      | (go_at_call 9; refine (HSZ1.out _).mono ?_; rintro e w7 ⟨rfl, hB⟩; with_reducible have hBn7 := BT.out _ _ (by with_reducible assumption) hB; clear hB)
      | (go_at_call 10; refine (HRZ1.out _).mono ?_; rintro e w8 ⟨rfl, hB⟩; with_reducible have hBn8 := BT.out _ _ (by with_reducible assumption) hB; clear hB)
      | (go_at_call 12; refine (HRS1.out _ (LW5.out _ (by with_reducible assumption))).mono ?_; rintro e w10 ⟨rfl, hB⟩; with_reducible have hBn10 := BT.out _ _ (by with_reducible assumption) hB; clear hB)
      | (go_at_call 13; refine (HCL1.out _ (LW5.out _ (by with_reducible assumption))).mono ?_; rintro e w11 ⟨⟨ac3, nc3, cc3, ae3, ne3, ce3, ap3, np3, cp3, ad3, nd3, cd3⟩, rfl, hB, hC⟩; with_reducible have hBn11 := BT.out _ _ (by with_reducible assumption) hB; have HC := Lib.hid hC; clear hB hC)
      | (go_at_call 11; (first | (with_reducible refine (HSA1.out _ (LW5.out _ (by with_reducible assumption))).mono ?_) | (with_reducible refine (HC.out _ (Below.refl _ _)).mono ?_)); rintro e w9 ⟨rfl, hB⟩; with_reducible have hBn9 := BT.out _ _ (by with_reducible assumption) hB; clear hB))
  have HF : Hid (TrueB w (.returned (.bool true)) w9) := Lib.hid ⟨rfl, HL5.out.trans (hBn9.mono HL5.out.size)⟩
  clear SB SD BT LW5 L5 HSM1 HSZ1 HRZ1 HSA1 HRS1 HCL1 HC
  go_wp2_with fail
  go_ret
  exact HF.out
end Go.Proofs.Ytkoldfoliigifaa

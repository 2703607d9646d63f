
/-
  RedBack: the walk.
-/
import Derived.Test.YtfmabpddacfbcaaRedBLaw0
namespace Go.Proofs.Ytfmabpddacfbcaa
open Go.RowKit Go.Shelf
set_option linter.unusedVariables false
set_option linter.unusedSimpArgs false
def TrueB (w : World) (e : Ending) (w' : World) : Prop := e = .returned (.bool true) ∧ Below w.heap.size w w'
theorem few_sm7 {s : Pl} (h : few s = true) : Sm s := by
  unfold few at h; simp at h
  exact ⟨by omega, by omega, by omega, by omega⟩
structure Bx7 (w W : World) (cs : Array Value) : Prop where
  box : W.heap[w.heap.size]? = some (.cells cs 36 (0, 0))
  low : Below w.heap.size w W
theorem Bx7.lt {w W : World} {cs : Array Value} (h : Bx7 w W cs) : w.heap.size < W.heap.size := (Array.getElem?_eq_some_iff.1 h.box).1
theorem Bx7.below {w W W' : World} {cs : Array Value} (h : Bx7 w W cs) (hb : Below W.heap.size W W') : Bx7 w W' cs := ⟨(hb.block _ h.lt).trans h.box, h.low.trans (hb.mono h.low.size)⟩
theorem Bx7.start (w : World) (cs : Array Value) : Bx7 w (w.alloc (.cells cs 36)) cs := ⟨by simpa using heap_alloc_new w _, (Below.refl _ w).alloc (Nat.le_refl _) _⟩
theorem Bx7.cs {w W : World} {v0 v1 v2 v3 v4 v5 v6 v7 v8 v9 v10 : Value} (h : Bx7 w W #[v0, v1, v2, v3, v4, v5, v6, v7, v8, v9, v10]) : W.cell? ⟨w.heap.size, 0, none⟩ = some v0 ∧ W.cell? ⟨w.heap.size, 1, none⟩ = some v1 ∧ W.cell? ⟨w.heap.size, 2, none⟩ = some v2 ∧ W.cell? ⟨w.heap.size, 3, none⟩ = some v3 ∧ W.cell? ⟨w.heap.size, 4, none⟩ = some v4 ∧ W.cell? ⟨w.heap.size, 5, none⟩ = some v5 ∧ W.cell? ⟨w.heap.size, 6, none⟩ = some v6 ∧ W.cell? ⟨w.heap.size, 7, none⟩ = some v7 ∧ W.cell? ⟨w.heap.size, 8, none⟩ = some v8 ∧ W.cell? ⟨w.heap.size, 9, none⟩ = some v9 ∧ W.cell? ⟨w.heap.size, 10, none⟩ = some v10 := by
  refine ⟨?_, ?_, ?_, ?_, ?_, ?_, ?_, ?_, ?_, ?_, ?_⟩ <;> (rw [cell_of_row W _ _ _ _ _ h.box]; rfl)
set_option maxHeartbeats 4000000 in
set_option maxRecDepth 100000 in
theorem walk_RedBack (a : Option Addr) (n c : Nat) (pt of : Nat → Int) (A : Nat → Option Addr) (C : Nat → Nat) (ds : Nat → List Int) (b : Option Addr) (m d : Nat) (l : List Int) (p : Pk) (s : Pl) (qt : Int) (w : World) (hb : BkAt w a n pt of A C ds) (hn : n ≤ c) (hn2 : n ≤ 9223372036854775807) (hd : ∀ i, i < n → (ds i).length ≤ 9223372036854775807) (hl : BAt w b m l) (hmd : m ≤ d) (hp : PkAt w p s) (hcp : s.np ≤ s.cp) :
    Calls Try.prog 4 #[.slice a n c, .slice b m d, .agg (pkc p s), .int .i64 qt] w (TrueB w) := by
  have HH := Lib.hid hb
  have HFEW : Hid (∀ W, Calls Try.prog 10 #[.agg (pkc p s)] W (ValB (.bool (few s)) W)) := Lib.hid fun W => few_any p s W
  have HSM : Hid (∀ W, Below w.heap.size w W → Calls Try.prog 6 #[.slice a n c] W (ValB (.bool (rsmall n ds)) W)) := Lib.hid fun W hB => small6 a n c pt of A C ds W (HH.out.below hB) hn2 hd
  have HWR : Hid (rsmall n ds = true → ∀ W, Below w.heap.size w W → Calls Try.prog 7 #[.slice a n c] W (WrOut (rwcode n pt of ds) (rwbytes n pt of ds) W)) := Lib.hid fun hf W hB => by
    have h2 := rsmall_ok hf
    exact redw_any a n c pt of A C ds W (HH.out.below hB) (by omega) hn (fun i hi => by have := h2.2 i hi; omega)
  have HPW : Hid (rwcode n pt of ds = 0 → ∀ W, Below w.heap.size w W → ∀ a3 n3 c3, BAt W a3 n3 (rwbytes n pt of ds) → n3 ≤ c3 → Calls Try.prog 11 #[.slice a3 n3 c3] W (PwPost a n c W)) := Lib.hid fun hc W hB a3 n3 c3 hO hnc => pw_any a n c pt of A C ds w HH.out hc W hB a3 n3 c3 hO hnc
  have HPB : Hid (m ≤ 3000 → ∀ W, Below w.heap.size w W → Calls Try.prog 11 #[.slice b m d] W (PbPost b m d W)) := Lib.hid fun hm W hB => pb_any b m d l w hl hmd hm W hB
  have HWP : Hid (few s = true → ((∃ f, (f != 0) = true ∧ ∀ W, Below w.heap.size w W → Calls Try.prog 13 #[.agg (pkc p s), .int .i64 qt] W (PrNo f W)) ∨ (∀ W, Below w.heap.size w W → Calls Try.prog 13 #[.agg (pkc p s), .int .i64 qt] W (WpPost p s qt W)))) := Lib.hid fun hf => wp_any p s qt w hp (few_sm7 hf) hcp
  have HZZ := Lib.hid zz_any
  have HX0 := Lib.hid (Bx7.start w (pkc p s))
  have hlen := hl.lim
  unfold WpPost at HWP
  clear hb hd hl hp hcp HH
  obtain ⟨m1, pp, sq, ts, ss, cs, h, pr, ex, py, pd⟩ := p
  obtain ⟨ac, nc, cc, ae, ne, ce, ap, np, cp, ad, nd, cd⟩ := s
  generalize hfew : few ⟨ac, nc, cc, ae, ne, ce, ap, np, cp, ad, nd, cd⟩ = fw at *
  simp only [pkc, zpk, zpl] at HFEW HWP HZZ HX0 ⊢
  generalize hrs : rsmall n ds = rs at *
  go_enter Try.func4, Try.ntmps4
  go_wp2_with fail
  refine (alive6 _).mono ?_
  rintro e w1 ⟨rfl, hB1⟩
  have HX1 := Lib.hid (HX0.out.below hB1)
  clear hB1 HX0
  go_wp2_with fail
  refine (HSM.out _ HX1.out.low).mono ?_
  rintro e w2 ⟨rfl, hB2⟩
  have HX2 := Lib.hid (HX1.out.below hB2)
  clear hB2 HX1 HSM
  cases rs
  case false =>
    go_wp2_with fail
    go_ret
    exact ⟨rfl, HX2.out.low⟩
  by_cases hm : 3000 < m
  · have hmz : (3000 : Int) < (m : Int) := by omega
    go_wp2_with fail
    go_ret
    exact ⟨rfl, HX2.out.low⟩
  have hmz : ¬ (3000 : Int) < (m : Int) := by omega
  obtain ⟨d0, d1, d2, d3, d4, d5, d6, d7, d8, d9, d10⟩ := HX2.out.cs
  go_wp2_with fail
  refine (HFEW.out _).mono ?_
  rintro e w3 ⟨rfl, hB3⟩
  have HX3 := Lib.hid (HX2.out.below hB3)
  clear hB3 HX2 HFEW d0 d1 d2 d3 d4 d5 d6 d7 d8 d9 d10
  cases fw
  case false =>
    go_wp2_with fail
    go_ret
    exact ⟨rfl, HX3.out.low⟩
  have HPB1 := Lib.hid (HPB.out (by omega)); clear HPB
  have HWR1 := Lib.hid (HWR.out (by trivial)); clear HWR
  have HWP1 := Lib.hid (HWP.out (by trivial)); clear HWP
  go_wp2_with fail
  refine (HWR1.out _ HX3.out.low).mono ?_
  rintro e w4 ⟨a4, n4, c4, rfl, hO4, hB4⟩
  have HX4 := Lib.hid (HX3.out.below hB4)
  have HO4 := Lib.hid hO4
  clear hO4 hB4 HX3 HWR1
  by_cases hc : rwcode n pt of ds = 0
  · have HPW1 := Lib.hid (HPW.out hc); clear HPW
    rw [hc]
    go_wp2_with fail
    refine (HPW1.out _ HX4.out.low _ _ _ HO4.out.bat HO4.out.cap6).mono ?_
    rintro e w5 ⟨ao, co, rfl, hB5, hS5⟩
    have HX5 := Lib.hid (HX4.out.below hB5)
    have HS5 := Lib.hid hS5
    clear hB5 hS5 HO4 HPW1 HX4
    go_wp2_with fail
    refine (HS5.out _ (Below.refl _ _)).mono ?_
    rintro e w6 ⟨rfl, hB6⟩
    have HX6 := Lib.hid (HX5.out.below hB6)
    clear hB6 HX5 HS5
    go_wp2_with fail
    refine (HPB1.out _ HX6.out.low).mono ?_
    clear HPB1
    rintro e w7 (⟨a7, K7, c7, rfl, hB7, hS7⟩ | ⟨f7, hf7, rfl, hB7⟩)
    · have HX7 := Lib.hid (HX6.out.below hB7)
      clear hB7 HX6
      by_cases hm2 : m ≤ 1500
      · have hm2z : (m : Int) ≤ 1500 := by omega
        have HS7 := Lib.hid (hS7 hm2)
        clear hS7
        go_wp2_with fail
        refine (HS7.out _ (Below.refl _ _)).mono ?_
        rintro e w8 ⟨a8, n8, c8, rfl, hB8, hS8⟩
        have HX8 := Lib.hid (HX7.out.below hB8)
        have HS8 := Lib.hid hS8
        clear hB8 hS8 HX7 HS7
        go_wp2_with fail
        refine (HS8.out _ (Below.refl _ _)).mono ?_
        rintro e w9 ⟨rfl, k8, hw9⟩
        have HX9 : Hid (Bx7 w w9 #[.bool m1, .int .i64 pp, .int .u16 sq, .int .u32 ts, .int .u32 ss, .slice ac nc cc, .bool h, .int .u16 pr, .slice ae ne ce, .slice ap np cp, .slice ad nd cd]) := Lib.hid (by rw [hw9]; exact HX8.out.below (below_drewN _ _ _))
        clear HS8 hw9 HX8
        obtain ⟨d0, d1, d2, d3, d4, d5, d6, d7, d8, d9, d10⟩ := HX9.out.cs
        rcases HWP1.out with ⟨f, hf, HW⟩ | HW
        · have HWN := Lib.hid HW; clear HW HWP1
          go_wp2_with fail
          refine (HWN.out _ HX9.out.low).mono ?_
          rintro e w10 ⟨rfl, hB10⟩
          have HX10 := Lib.hid (HX9.out.below hB10)
          clear hB10 HWN HX9 d0 d1 d2 d3 d4 d5 d6 d7 d8 d9 d10
          go_wp2_with fail
          refine (HZZ.out _).mono ?_
          rintro e w11 ⟨rfl, hB11⟩
          have HF : Hid (TrueB w (.returned (.bool true)) w11) := Lib.hid ⟨rfl, ((HX10.out.below ((Below.refl _ w10).alloc (Nat.le_refl _) _)).below hB11).low⟩
          clear hB11 HX10
          go_wp2_with fail
          go_ret
          exact HF.out
        · have HWY := Lib.hid HW; clear HW HWP1
          go_wp2_with fail
          refine (HWY.out _ HX9.out.low).mono ?_
          rintro e w10 ⟨⟨m2, pp2, sq2, ts2, ss2, cs2, h2, pr2, ex2, py2, pd2⟩, ⟨ac2, nc2, cc2, ae2, ne2, ce2, ap2, np2, cp2, ad2, nd2, cd2⟩, rfl, hqt, hB10, hP10⟩
          have HX10 := Lib.hid (HX9.out.below hB10)
          have HP10 := Lib.hid hP10
          clear hB10 hP10 HWY HX9 d0 d1 d2 d3 d4 d5 d6 d7 d8 d9 d10
          simp only [pkc] at HP10 hqt ⊢
          subst hqt
          go_wp2_with fail
          refine (HP10.out _ ((Below.refl _ w10).alloc (Nat.le_refl _) _)).mono ?_
          rintro e w12 ⟨⟨ac3, nc3, cc3, ae3, ne3, ce3, ap3, np3, cp3, ad3, nd3, cd3⟩, rfl, hB12, hS12⟩
          have HX12 := Lib.hid ((HX10.out.below ((Below.refl _ w10).alloc (Nat.le_refl _) _)).below hB12)
          have hr12 := (hB12.block w10.heap.size (by simp)).trans (heap_alloc_new w10 _)
          have HR12 := Lib.hid hr12
          have HS12 := Lib.hid hS12
          clear hB12 hS12 HP10 HX10 hr12
          simp only [pkc] at HS12 ⊢
          have hB13 : Below w12.heap.size w12 (w12.alloc (.cells #[.bool m1, .int .i64 pp, .int .u16 sq, .int .u32 ts, .int .u32 ss, .slice ac3 nc3 cc3, .bool h, .int .u16 pr, .slice ae3 ne3 ce3, .slice ap3 np3 cp3, .slice ad3 nd3 cd3] 36)) := (Below.refl _ w12).alloc (Nat.le_refl _) _
          have HX13 := Lib.hid (HX12.out.below hB13)
          have HR13 := Lib.hid ((hB13.block w10.heap.size (Array.getElem?_eq_some_iff.1 HR12.out).1).trans HR12.out)
          have HS13 := Lib.hid (HS12.out _ hB13)
          clear hB13 HS12 HR12 HX12
          obtain ⟨d0, d1, d2, d3, d4, d5, d6, d7, d8, d9, d10⟩ := HX13.out.cs
          go_wp2_with fail
          refine (HS13.out).mono ?_
          rintro e w14 ⟨rfl, hB14⟩
          have hr14 := (hB14.block w10.heap.size (Array.getElem?_eq_some_iff.1 HR13.out).1).trans HR13.out
          have HF : Hid (TrueB w (.returned (.bool true)) w14) := Lib.hid ⟨rfl, (HX13.out.below hB14).low⟩
          have x1 : w14.cell? ⟨w10.heap.size, 1, none⟩ = some (.int .i64 pp2) := by rw [cell_of_row w14 _ 1 _ _ _ hr14]; rfl
          have hqq : (pp2 == pp2) = true := by simp
          clear hr14 hB14 HX13 HR13 HS13 d0 d1 d2 d3 d4 d5 d6 d7 d8 d9 d10
          go_wp2_with fail
          go_ret
          exact HF.out
      · have hm2z : ¬ (m : Int) ≤ 1500 := by omega
        clear hS7
        obtain ⟨d0, d1, d2, d3, d4, d5, d6, d7, d8, d9, d10⟩ := HX7.out.cs
        rcases HWP1.out with ⟨f, hf, HW⟩ | HW
        · have HWN := Lib.hid HW; clear HW HWP1
          go_wp2_with fail
          refine (HWN.out _ HX7.out.low).mono ?_
          rintro e w10 ⟨rfl, hB10⟩
          have HX10 := Lib.hid (HX7.out.below hB10)
          clear hB10 HWN HX7 d0 d1 d2 d3 d4 d5 d6 d7 d8 d9 d10
          go_wp2_with fail
          refine (HZZ.out _).mono ?_
          rintro e w11 ⟨rfl, hB11⟩
          have HF : Hid (TrueB w (.returned (.bool true)) w11) := Lib.hid ⟨rfl, ((HX10.out.below ((Below.refl _ w10).alloc (Nat.le_refl _) _)).below hB11).low⟩
          clear hB11 HX10
          go_wp2_with fail
          go_ret
          exact HF.out
        · have HWY := Lib.hid HW; clear HW HWP1
          go_wp2_with fail
          refine (HWY.out _ HX7.out.low).mono ?_
          rintro e w10 ⟨⟨m2, pp2, sq2, ts2, ss2, cs2, h2, pr2, ex2, py2, pd2⟩, ⟨ac2, nc2, cc2, ae2, ne2, ce2, ap2, np2, cp2, ad2, nd2, cd2⟩, rfl, hqt, hB10, hP10⟩
          have HX10 := Lib.hid (HX7.out.below hB10)
          have HP10 := Lib.hid hP10
          clear hB10 hP10 HWY HX7 d0 d1 d2 d3 d4 d5 d6 d7 d8 d9 d10
          simp only [pkc] at HP10 hqt ⊢
          subst hqt
          go_wp2_with fail
          refine (HP10.out _ ((Below.refl _ w10).alloc (Nat.le_refl _) _)).mono ?_
          rintro e w12 ⟨⟨ac3, nc3, cc3, ae3, ne3, ce3, ap3, np3, cp3, ad3, nd3, cd3⟩, rfl, hB12, hS12⟩
          have HX12 := Lib.hid ((HX10.out.below ((Below.refl _ w10).alloc (Nat.le_refl _) _)).below hB12)
          have hr12 := (hB12.block w10.heap.size (by simp)).trans (heap_alloc_new w10 _)
          have HR12 := Lib.hid hr12
          have HS12 := Lib.hid hS12
          clear hB12 hS12 HP10 HX10 hr12
          simp only [pkc] at HS12 ⊢
          have hB13 : Below w12.heap.size w12 (w12.alloc (.cells #[.bool m1, .int .i64 pp, .int .u16 sq, .int .u32 ts, .int .u32 ss, .slice ac3 nc3 cc3, .bool h, .int .u16 pr, .slice ae3 ne3 ce3, .slice ap3 np3 cp3, .slice ad3 nd3 cd3] 36)) := (Below.refl _ w12).alloc (Nat.le_refl _) _
          have HX13 := Lib.hid (HX12.out.below hB13)
          have HR13 := Lib.hid ((hB13.block w10.heap.size (Array.getElem?_eq_some_iff.1 HR12.out).1).trans HR12.out)
          have HS13 := Lib.hid (HS12.out _ hB13)
          clear hB13 HS12 HR12 HX12
          obtain ⟨d0, d1, d2, d3, d4, d5, d6, d7, d8, d9, d10⟩ := HX13.out.cs
          go_wp2_with fail
          refine (HS13.out).mono ?_
          rintro e w14 ⟨rfl, hB14⟩
          have hr14 := (hB14.block w10.heap.size (Array.getElem?_eq_some_iff.1 HR13.out).1).trans HR13.out
          have HF : Hid (TrueB w (.returned (.bool true)) w14) := Lib.hid ⟨rfl, (HX13.out.below hB14).low⟩
          have x1 : w14.cell? ⟨w10.heap.size, 1, none⟩ = some (.int .i64 pp2) := by rw [cell_of_row w14 _ 1 _ _ _ hr14]; rfl
          have hqq : (pp2 == pp2) = true := by simp
          clear hr14 hB14 HX13 HR13 HS13 d0 d1 d2 d3 d4 d5 d6 d7 d8 d9 d10
          go_wp2_with fail
          go_ret
          exact HF.out
    · have HX7 := Lib.hid (HX6.out.below hB7)
      have hf7b : (f7 == 0) = false := by simpa using hf7
      clear hB7 HX6
      obtain ⟨d0, d1, d2, d3, d4, d5, d6, d7, d8, d9, d10⟩ := HX7.out.cs
      rcases HWP1.out with ⟨f, hf, HW⟩ | HW
      · have HWN := Lib.hid HW; clear HW HWP1
        go_wp2_with fail
        refine (HWN.out _ HX7.out.low).mono ?_
        rintro e w10 ⟨rfl, hB10⟩
        have HX10 := Lib.hid (HX7.out.below hB10)
        clear hB10 HWN HX7 d0 d1 d2 d3 d4 d5 d6 d7 d8 d9 d10
        go_wp2_with fail
        refine (HZZ.out _).mono ?_
        rintro e w11 ⟨rfl, hB11⟩
        have HF : Hid (TrueB w (.returned (.bool true)) w11) := Lib.hid ⟨rfl, ((HX10.out.below ((Below.refl _ w10).alloc (Nat.le_refl _) _)).below hB11).low⟩
        clear hB11 HX10
        go_wp2_with fail
        go_ret
        exact HF.out
      · have HWY := Lib.hid HW; clear HW HWP1
        go_wp2_with fail
        refine (HWY.out _ HX7.out.low).mono ?_
        rintro e w10 ⟨⟨m2, pp2, sq2, ts2, ss2, cs2, h2, pr2, ex2, py2, pd2⟩, ⟨ac2, nc2, cc2, ae2, ne2, ce2, ap2, np2, cp2, ad2, nd2, cd2⟩, rfl, hqt, hB10, hP10⟩
        have HX10 := Lib.hid (HX7.out.below hB10)
        have HP10 := Lib.hid hP10
        clear hB10 hP10 HWY HX7 d0 d1 d2 d3 d4 d5 d6 d7 d8 d9 d10
        simp only [pkc] at HP10 hqt ⊢
        subst hqt
        go_wp2_with fail
        refine (HP10.out _ ((Below.refl _ w10).alloc (Nat.le_refl _) _)).mono ?_
        rintro e w12 ⟨⟨ac3, nc3, cc3, ae3, ne3, ce3, ap3, np3, cp3, ad3, nd3, cd3⟩, rfl, hB12, hS12⟩
        have HX12 := Lib.hid ((HX10.out.below ((Below.refl _ w10).alloc (Nat.le_refl _) _)).below hB12)
        have hr12 := (hB12.block w10.heap.size (by simp)).trans (heap_alloc_new w10 _)
        have HR12 := Lib.hid hr12
        have HS12 := Lib.hid hS12
        clear hB12 hS12 HP10 HX10 hr12
        simp only [pkc] at HS12 ⊢
        have hB13 : Below w12.heap.size w12 (w12.alloc (.cells #[.bool m1, .int .i64 pp, .int .u16 sq, .int .u32 ts, .int .u32 ss, .slice ac3 nc3 cc3, .bool h, .int .u16 pr, .slice ae3 ne3 ce3, .slice ap3 np3 cp3, .slice ad3 nd3 cd3] 36)) := (Below.refl _ w12).alloc (Nat.le_refl _) _
        have HX13 := Lib.hid (HX12.out.below hB13)
        have HR13 := Lib.hid ((hB13.block w10.heap.size (Array.getElem?_eq_some_iff.1 HR12.out).1).trans HR12.out)
        have HS13 := Lib.hid (HS12.out _ hB13)
        clear hB13 HS12 HR12 HX12
        obtain ⟨d0, d1, d2, d3, d4, d5, d6, d7, d8, d9, d10⟩ := HX13.out.cs
        go_wp2_with fail
        refine (HS13.out).mono ?_
        rintro e w14 ⟨rfl, hB14⟩
        have hr14 := (hB14.block w10.heap.size (Array.getElem?_eq_some_iff.1 HR13.out).1).trans HR13.out
        have HF : Hid (TrueB w (.returned (.bool true)) w14) := Lib.hid ⟨rfl, (HX13.out.below hB14).low⟩
        have x1 : w14.cell? ⟨w10.heap.size, 1, none⟩ = some (.int .i64 pp2) := by rw [cell_of_row w14 _ 1 _ _ _ hr14]; rfl
        have hqq : (pp2 == pp2) = true := by simp
        clear hr14 hB14 HX13 HR13 HS13 d0 d1 d2 d3 d4 d5 d6 d7 d8 d9 d10
        go_wp2_with fail
        go_ret
        exact HF.out
  · have hcz : (rwcode n pt of ds == 0) = false := by simpa using hc
    clear HPW HO4
    generalize rwcode n pt of ds = f1 at *
    go_wp2_with fail
    refine (HPB1.out _ HX4.out.low).mono ?_
    clear HPB1
    rintro e w7 (⟨a7, K7, c7, rfl, hB7, hS7⟩ | ⟨f7, hf7, rfl, hB7⟩)
    · have HX7 := Lib.hid (HX4.out.below hB7)
      clear hB7 HX4
      by_cases hm2 : m ≤ 1500
      · have hm2z : (m : Int) ≤ 1500 := by omega
        have HS7 := Lib.hid (hS7 hm2)
        clear hS7
        go_wp2_with fail
        refine (HS7.out _ (Below.refl _ _)).mono ?_
        rintro e w8 ⟨a8, n8, c8, rfl, hB8, hS8⟩
        have HX8 := Lib.hid (HX7.out.below hB8)
        have HS8 := Lib.hid hS8
        clear hB8 hS8 HX7 HS7
        go_wp2_with fail
        refine (HS8.out _ (Below.refl _ _)).mono ?_
        rintro e w9 ⟨rfl, k8, hw9⟩
        have HX9 : Hid (Bx7 w w9 #[.bool m1, .int .i64 pp, .int .u16 sq, .int .u32 ts, .int .u32 ss, .slice ac nc cc, .bool h, .int .u16 pr, .slice ae ne ce, .slice ap np cp, .slice ad nd cd]) := Lib.hid (by rw [hw9]; exact HX8.out.below (below_drewN _ _ _))
        clear HS8 hw9 HX8
        obtain ⟨d0, d1, d2, d3, d4, d5, d6, d7, d8, d9, d10⟩ := HX9.out.cs
        rcases HWP1.out with ⟨f, hf, HW⟩ | HW
        · have HWN := Lib.hid HW; clear HW HWP1
          go_wp2_with fail
          refine (HWN.out _ HX9.out.low).mono ?_
          rintro e w10 ⟨rfl, hB10⟩
          have HX10 := Lib.hid (HX9.out.below hB10)
          clear hB10 HWN HX9 d0 d1 d2 d3 d4 d5 d6 d7 d8 d9 d10
          go_wp2_with fail
          refine (HZZ.out _).mono ?_
          rintro e w11 ⟨rfl, hB11⟩
          have HF : Hid (TrueB w (.returned (.bool true)) w11) := Lib.hid ⟨rfl, ((HX10.out.below ((Below.refl _ w10).alloc (Nat.le_refl _) _)).below hB11).low⟩
          clear hB11 HX10
          go_wp2_with fail
          go_ret
          exact HF.out
        · have HWY := Lib.hid HW; clear HW HWP1
          go_wp2_with fail
          refine (HWY.out _ HX9.out.low).mono ?_
          rintro e w10 ⟨⟨m2, pp2, sq2, ts2, ss2, cs2, h2, pr2, ex2, py2, pd2⟩, ⟨ac2, nc2, cc2, ae2, ne2, ce2, ap2, np2, cp2, ad2, nd2, cd2⟩, rfl, hqt, hB10, hP10⟩
          have HX10 := Lib.hid (HX9.out.below hB10)
          have HP10 := Lib.hid hP10
          clear hB10 hP10 HWY HX9 d0 d1 d2 d3 d4 d5 d6 d7 d8 d9 d10
          simp only [pkc] at HP10 hqt ⊢
          subst hqt
          go_wp2_with fail
          refine (HP10.out _ ((Below.refl _ w10).alloc (Nat.le_refl _) _)).mono ?_
          rintro e w12 ⟨⟨ac3, nc3, cc3, ae3, ne3, ce3, ap3, np3, cp3, ad3, nd3, cd3⟩, rfl, hB12, hS12⟩
          have HX12 := Lib.hid ((HX10.out.below ((Below.refl _ w10).alloc (Nat.le_refl _) _)).below hB12)
          have hr12 := (hB12.block w10.heap.size (by simp)).trans (heap_alloc_new w10 _)
          have HR12 := Lib.hid hr12
          have HS12 := Lib.hid hS12
          clear hB12 hS12 HP10 HX10 hr12
          simp only [pkc] at HS12 ⊢
          have hB13 : Below w12.heap.size w12 (w12.alloc (.cells #[.bool m1, .int .i64 pp, .int .u16 sq, .int .u32 ts, .int .u32 ss, .slice ac3 nc3 cc3, .bool h, .int .u16 pr, .slice ae3 ne3 ce3, .slice ap3 np3 cp3, .slice ad3 nd3 cd3] 36)) := (Below.refl _ w12).alloc (Nat.le_refl _) _
          have HX13 := Lib.hid (HX12.out.below hB13)
          have HR13 := Lib.hid ((hB13.block w10.heap.size (Array.getElem?_eq_some_iff.1 HR12.out).1).trans HR12.out)
          have HS13 := Lib.hid (HS12.out _ hB13)
          clear hB13 HS12 HR12 HX12
          obtain ⟨d0, d1, d2, d3, d4, d5, d6, d7, d8, d9, d10⟩ := HX13.out.cs
          go_wp2_with fail
          refine (HS13.out).mono ?_
          rintro e w14 ⟨rfl, hB14⟩
          have hr14 := (hB14.block w10.heap.size (Array.getElem?_eq_some_iff.1 HR13.out).1).trans HR13.out
          have HF : Hid (TrueB w (.returned (.bool true)) w14) := Lib.hid ⟨rfl, (HX13.out.below hB14).low⟩
          have x1 : w14.cell? ⟨w10.heap.size, 1, none⟩ = some (.int .i64 pp2) := by rw [cell_of_row w14 _ 1 _ _ _ hr14]; rfl
          have hqq : (pp2 == pp2) = true := by simp
          clear hr14 hB14 HX13 HR13 HS13 d0 d1 d2 d3 d4 d5 d6 d7 d8 d9 d10
          go_wp2_with fail
          go_ret
          exact HF.out
      · have hm2z : ¬ (m : Int) ≤ 1500 := by omega
        clear hS7
        obtain ⟨d0, d1, d2, d3, d4, d5, d6, d7, d8, d9, d10⟩ := HX7.out.cs
        rcases HWP1.out with ⟨f, hf, HW⟩ | HW
        · have HWN := Lib.hid HW; clear HW HWP1
          go_wp2_with fail
          refine (HWN.out _ HX7.out.low).mono ?_
          rintro e w10 ⟨rfl, hB10⟩
          have HX10 := Lib.hid (HX7.out.below hB10)
          clear hB10 HWN HX7 d0 d1 d2 d3 d4 d5 d6 d7 d8 d9 d10
          go_wp2_with fail
          refine (HZZ.out _).mono ?_
          rintro e w11 ⟨rfl, hB11⟩
          have HF : Hid (TrueB w (.returned (.bool true)) w11) := Lib.hid ⟨rfl, ((HX10.out.below ((Below.refl _ w10).alloc (Nat.le_refl _) _)).below hB11).low⟩
          clear hB11 HX10
          go_wp2_with fail
          go_ret
          exact HF.out
        · have HWY := Lib.hid HW; clear HW HWP1
          go_wp2_with fail
          refine (HWY.out _ HX7.out.low).mono ?_
          rintro e w10 ⟨⟨m2, pp2, sq2, ts2, ss2, cs2, h2, pr2, ex2, py2, pd2⟩, ⟨ac2, nc2, cc2, ae2, ne2, ce2, ap2, np2, cp2, ad2, nd2, cd2⟩, rfl, hqt, hB10, hP10⟩
          have HX10 := Lib.hid (HX7.out.below hB10)
          have HP10 := Lib.hid hP10
          clear hB10 hP10 HWY HX7 d0 d1 d2 d3 d4 d5 d6 d7 d8 d9 d10
          simp only [pkc] at HP10 hqt ⊢
          subst hqt
          go_wp2_with fail
          refine (HP10.out _ ((Below.refl _ w10).alloc (Nat.le_refl _) _)).mono ?_
          rintro e w12 ⟨⟨ac3, nc3, cc3, ae3, ne3, ce3, ap3, np3, cp3, ad3, nd3, cd3⟩, rfl, hB12, hS12⟩
          have HX12 := Lib.hid ((HX10.out.below ((Below.refl _ w10).alloc (Nat.le_refl _) _)).below hB12)
          have hr12 := (hB12.block w10.heap.size (by simp)).trans (heap_alloc_new w10 _)
          have HR12 := Lib.hid hr12
          have HS12 := Lib.hid hS12
          clear hB12 hS12 HP10 HX10 hr12
          simp only [pkc] at HS12 ⊢
          have hB13 : Below w12.heap.size w12 (w12.alloc (.cells #[.bool m1, .int .i64 pp, .int .u16 sq, .int .u32 ts, .int .u32 ss, .slice ac3 nc3 cc3, .bool h, .int .u16 pr, .slice ae3 ne3 ce3, .slice ap3 np3 cp3, .slice ad3 nd3 cd3] 36)) := (Below.refl _ w12).alloc (Nat.le_refl _) _
          have HX13 := Lib.hid (HX12.out.below hB13)
          have HR13 := Lib.hid ((hB13.block w10.heap.size (Array.getElem?_eq_some_iff.1 HR12.out).1).trans HR12.out)
          have HS13 := Lib.hid (HS12.out _ hB13)
          clear hB13 HS12 HR12 HX12
          obtain ⟨d0, d1, d2, d3, d4, d5, d6, d7, d8, d9, d10⟩ := HX13.out.cs
          go_wp2_with fail
          refine (HS13.out).mono ?_
          rintro e w14 ⟨rfl, hB14⟩
          have hr14 := (hB14.block w10.heap.size (Array.getElem?_eq_some_iff.1 HR13.out).1).trans HR13.out
          have HF : Hid (TrueB w (.returned (.bool true)) w14) := Lib.hid ⟨rfl, (HX13.out.below hB14).low⟩
          have x1 : w14.cell? ⟨w10.heap.size, 1, none⟩ = some (.int .i64 pp2) := by rw [cell_of_row w14 _ 1 _ _ _ hr14]; rfl
          have hqq : (pp2 == pp2) = true := by simp
          clear hr14 hB14 HX13 HR13 HS13 d0 d1 d2 d3 d4 d5 d6 d7 d8 d9 d10
          go_wp2_with fail
          go_ret
          exact HF.out
    · have HX7 := Lib.hid (HX4.out.below hB7)
      have hf7b : (f7 == 0) = false := by simpa using hf7
      clear hB7 HX4
      obtain ⟨d0, d1, d2, d3, d4, d5, d6, d7, d8, d9, d10⟩ := HX7.out.cs
      rcases HWP1.out with ⟨f, hf, HW⟩ | HW
      · have HWN := Lib.hid HW; clear HW HWP1
        go_wp2_with fail
        refine (HWN.out _ HX7.out.low).mono ?_
        rintro e w10 ⟨rfl, hB10⟩
        have HX10 := Lib.hid (HX7.out.below hB10)
        clear hB10 HWN HX7 d0 d1 d2 d3 d4 d5 d6 d7 d8 d9 d10
        go_wp2_with fail
        refine (HZZ.out _).mono ?_
        rintro e w11 ⟨rfl, hB11⟩
        have HF : Hid (TrueB w (.returned (.bool true)) w11) := Lib.hid ⟨rfl, ((HX10.out.below ((Below.refl _ w10).alloc (Nat.le_refl _) _)).below hB11).low⟩
        clear hB11 HX10
        go_wp2_with fail
        go_ret
        exact HF.out
      · have HWY := Lib.hid HW; clear HW HWP1
        go_wp2_with fail
        refine (HWY.out _ HX7.out.low).mono ?_
        rintro e w10 ⟨⟨m2, pp2, sq2, ts2, ss2, cs2, h2, pr2, ex2, py2, pd2⟩, ⟨ac2, nc2, cc2, ae2, ne2, ce2, ap2, np2, cp2, ad2, nd2, cd2⟩, rfl, hqt, hB10, hP10⟩
        have HX10 := Lib.hid (HX7.out.below hB10)
        have HP10 := Lib.hid hP10
        clear hB10 hP10 HWY HX7 d0 d1 d2 d3 d4 d5 d6 d7 d8 d9 d10
        simp only [pkc] at HP10 hqt ⊢
        subst hqt
        go_wp2_with fail
        refine (HP10.out _ ((Below.refl _ w10).alloc (Nat.le_refl _) _)).mono ?_
        rintro e w12 ⟨⟨ac3, nc3, cc3, ae3, ne3, ce3, ap3, np3, cp3, ad3, nd3, cd3⟩, rfl, hB12, hS12⟩
        have HX12 := Lib.hid ((HX10.out.below ((Below.refl _ w10).alloc (Nat.le_refl _) _)).below hB12)
        have hr12 := (hB12.block w10.heap.size (by simp)).trans (heap_alloc_new w10 _)
        have HR12 := Lib.hid hr12
        have HS12 := Lib.hid hS12
        clear hB12 hS12 HP10 HX10 hr12
        simp only [pkc] at HS12 ⊢
        have hB13 : Below w12.heap.size w12 (w12.alloc (.cells #[.bool m1, .int .i64 pp, .int .u16 sq, .int .u32 ts, .int .u32 ss, .slice ac3 nc3 cc3, .bool h, .int .u16 pr, .slice ae3 ne3 ce3, .slice ap3 np3 cp3, .slice ad3 nd3 cd3] 36)) := (Below.refl _ w12).alloc (Nat.le_refl _) _
        have HX13 := Lib.hid (HX12.out.below hB13)
        have HR13 := Lib.hid ((hB13.block w10.heap.size (Array.getElem?_eq_some_iff.1 HR12.out).1).trans HR12.out)
        have HS13 := Lib.hid (HS12.out _ hB13)
        clear hB13 HS12 HR12 HX12
        obtain ⟨d0, d1, d2, d3, d4, d5, d6, d7, d8, d9, d10⟩ := HX13.out.cs
        go_wp2_with fail
        refine (HS13.out).mono ?_
        rintro e w14 ⟨rfl, hB14⟩
        have hr14 := (hB14.block w10.heap.size (Array.getElem?_eq_some_iff.1 HR13.out).1).trans HR13.out
        have HF : Hid (TrueB w (.returned (.bool true)) w14) := Lib.hid ⟨rfl, (HX13.out.below hB14).low⟩
        have x1 : w14.cell? ⟨w10.heap.size, 1, none⟩ = some (.int .i64 pp2) := by rw [cell_of_row w14 _ 1 _ _ _ hr14]; rfl
        have hqq : (pp2 == pp2) = true := by simp
        clear hr14 hB14 HX13 HR13 HS13 d0 d1 d2 d3 d4 d5 d6 d7 d8 d9 d10
        go_wp2_with fail
        go_ret
        exact HF.out
theorem back_in (a : Option Addr) (len cap : Nat) (P O : Nat → Int) (A : Nat → Option Addr) (L C : Nat → Nat) (Z : Nat → List Int) (b : Option Addr) (m d : Nat) (l : List Int) (p : Pk) (s : Pl) (qt : Int) (w : World) (w0 : BkIn w a len cap P O A L C Z) (hl : BAt w b m l) (hmd : m ≤ d) (hp : PkAt w p s) (hcp : s.np ≤ s.cp) :
    Calls Try.prog 4 #[.slice a len cap, .slice b m d, .agg (pkc p s), .int .i64 qt] w (TrueB w) := by
  have h := w0.at
  refine walk_RedBack _ _ _ _ _ _ _ _ b m d l p s qt w h.1 (bkin_cap2 w0) h.2 (fun i hi => ?_) hl hmd hp hcp
  obtain ⟨b', o, hr⟩ := h.1
  exact (hr i hi).2.2.2.2.2.1.lim
end Go.Proofs.Ytfmabpddacfbcaa

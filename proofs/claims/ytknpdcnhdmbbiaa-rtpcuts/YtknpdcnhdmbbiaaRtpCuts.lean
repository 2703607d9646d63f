
/-
  RtpCuts: the walk.
-/
import Derived.Test.YtknpdcnhdmbbiaaRtpBack
import Derived.Test.YtknpdcnhdmbbiaaRtpPlain3
namespace Go.Proofs.Ytknpdcnhdmbbiaa
open Go.RowKit Go.Shelf
set_option linter.unusedVariables false
set_option maxHeartbeats 8000000 in
set_option maxRecDepth 100000 in
theorem walk_RtpCuts (p : Pk) (s : Pl) (cut : Int) (w : World) (hp : PkAt w p s) (hcp : s.np ≤ s.cp) :
    Calls Try.prog 8 #[.agg (pkc p s), .int .i64 cut] w (TrueB w) := by
  have HL0 := Lib.hid (Lw.start w p s)
  have HFEW : Hid (∀ W, Calls Try.prog 21 #[.agg (pkc p s)] W (ValB (.bool (few s)) W)) := Lib.hid fun W => few_any p s W
  have HWR : Hid (few s = true → ∀ W, Below w.heap.size w W → Calls Try.prog 22 #[.agg (pkc p s)] W (WrOut (wcode p s) (wbytes p s) W)) := Lib.hid fun hf W hB => write5_any p s W (hp.below hB) (few_sm hf)
  have HVL : Hid (wcode p s = 0 → Vld p s ∧ wbytes p s = enc p s) := Lib.hid fun h0 => ⟨vld_of hp h0, by unfold wbytes; rw [if_pos h0]⟩
  have HNL : Hid (wcode p s ≠ 0 → wbytes p s = []) := Lib.hid fun h0 => by unfold wbytes; rw [if_neg h0]
  have HSIZE : Hid (few s = true → ∀ W, Calls Try.prog 25 #[.agg (pkc p s)] W (ValB (.int .i64 (sz p s : Nat)) W)) := Lib.hid fun hf W => size_any p s W (few_sm hf)
  have HSM : Hid (few s = true → Sm s) := Lib.hid few_sm
  have HHZ : Hid (sz p s = hdr p s + s.np + s.nd) := Lib.hid (hdr_sz p s)
  have HCS : Hid (wcode p s = 0 → ∀ m, m < hdr p s → pcodeF m ((enc p s).take m) = 20) := Lib.hid fun h0 m hm => cut_short (vld_of hp h0) hm
  have HCP : Hid (wcode p s = 0 → ∀ m, hdr p s ≤ m → m ≤ sz p s → pcodeF m ((enc p s).take m) = 0 ∨ pcodeF m ((enc p s).take m) = 21) := Lib.hid fun h0 m h1 h2 => cut_pad (vld_of hp h0) h1 h2
  have HCN : Hid (wcode p s = 0 → ∀ m, hdr p s ≤ m → m ≤ sz p s → s.nd = 0 → pcodeF m ((enc p s).take m) = 0 ∧ (ppk ((enc p s).take m)).payload = p.payload.take (m - hdr p s) ∧ (ppk ((enc p s).take m)).seq = p.seq) := Lib.hid fun h0 m h1 h2 h3 => cut_nopad (vld_of hp h0) h1 h2 h3
  have HLEN : Hid (wcode p s = 0 → (enc p s).length = sz p s ∧ 12 ≤ hdr p s ∧ sz p s ≤ 1500) := Lib.hid fun h0 => ⟨enc_len (vld_of hp h0), by have := (hdr_ge p s).1; omega, (vld_of hp h0).size⟩
  have HPY := Lib.hid hp.pay; clear hp
  generalize few s = fw at HFEW HWR HSIZE HSM
  generalize wcode p s = wc at HWR HVL HNL HCS HCP HCN HLEN
  generalize wbytes p s = wb at HWR HVL HNL
  generalize sz p s = z at HSIZE HHZ HCP HCN HLEN
  generalize hdr p s = hd at HHZ HCS HCP HCN HLEN
  generalize enc p s = el at HVL HCS HCP HCN HLEN
  obtain ⟨m, pt, sq, ts, ss, cs, h, pr, ex, py, pd⟩ := p
  obtain ⟨ac, nc, cc, ae, ne, ce, ap, np, cp, ad, nd, cd⟩ := s
  have MK : Hid (∀ W, Lw w W ⟨m, pt, sq, ts, ss, cs, h, pr, ex, py, pd⟩ ⟨ac, nc, cc, ae, ne, ce, ap, np, cp, ad, nd, cd⟩ → (W.cell? ⟨w.heap.size, 0, none⟩ = some (.bool m) ∧ W.cell? ⟨w.heap.size, 1, none⟩ = some (.int .i64 pt) ∧ W.cell? ⟨w.heap.size, 2, none⟩ = some (.int .u16 sq) ∧ W.cell? ⟨w.heap.size, 3, none⟩ = some (.int .u32 ts) ∧ W.cell? ⟨w.heap.size, 4, none⟩ = some (.int .u32 ss) ∧ W.cell? ⟨w.heap.size, 5, none⟩ = some (.slice ac nc cc) ∧ W.cell? ⟨w.heap.size, 6, none⟩ = some (.bool h) ∧ W.cell? ⟨w.heap.size, 7, none⟩ = some (.int .u16 pr) ∧ W.cell? ⟨w.heap.size, 8, none⟩ = some (.slice ae ne ce) ∧ W.cell? ⟨w.heap.size, 9, none⟩ = some (.slice ap np cp) ∧ W.cell? ⟨w.heap.size, 10, none⟩ = some (.slice ad nd cd)) ∧ Lw w W ⟨m, pt, sq, ts, ss, cs, h, pr, ex, py, pd⟩ ⟨ac, nc, cc, ae, ne, ce, ap, np, cp, ad, nd, cd⟩) := Lib.hid fun W hL => by
    have bx := hL.box
    simp only [pkc] at bx
    refine ⟨?_, hL⟩
    repeat' apply And.intro
    all_goals (rw [cell_of_row W _ _ _ _ _ bx]; rfl)
  have DR : Hid (∀ W : World, (W.cell? ⟨w.heap.size, 0, none⟩ = some (.bool m) ∧ W.cell? ⟨w.heap.size, 1, none⟩ = some (.int .i64 pt) ∧ W.cell? ⟨w.heap.size, 2, none⟩ = some (.int .u16 sq) ∧ W.cell? ⟨w.heap.size, 3, none⟩ = some (.int .u32 ts) ∧ W.cell? ⟨w.heap.size, 4, none⟩ = some (.int .u32 ss) ∧ W.cell? ⟨w.heap.size, 5, none⟩ = some (.slice ac nc cc) ∧ W.cell? ⟨w.heap.size, 6, none⟩ = some (.bool h) ∧ W.cell? ⟨w.heap.size, 7, none⟩ = some (.int .u16 pr) ∧ W.cell? ⟨w.heap.size, 8, none⟩ = some (.slice ae ne ce) ∧ W.cell? ⟨w.heap.size, 9, none⟩ = some (.slice ap np cp) ∧ W.cell? ⟨w.heap.size, 10, none⟩ = some (.slice ad nd cd)) ∧ Lw w W ⟨m, pt, sq, ts, ss, cs, h, pr, ex, py, pd⟩ ⟨ac, nc, cc, ae, ne, ce, ap, np, cp, ad, nd, cd⟩ → (W.drew.cell? ⟨w.heap.size, 0, none⟩ = some (.bool m) ∧ W.drew.cell? ⟨w.heap.size, 1, none⟩ = some (.int .i64 pt) ∧ W.drew.cell? ⟨w.heap.size, 2, none⟩ = some (.int .u16 sq) ∧ W.drew.cell? ⟨w.heap.size, 3, none⟩ = some (.int .u32 ts) ∧ W.drew.cell? ⟨w.heap.size, 4, none⟩ = some (.int .u32 ss) ∧ W.drew.cell? ⟨w.heap.size, 5, none⟩ = some (.slice ac nc cc) ∧ W.drew.cell? ⟨w.heap.size, 6, none⟩ = some (.bool h) ∧ W.drew.cell? ⟨w.heap.size, 7, none⟩ = some (.int .u16 pr) ∧ W.drew.cell? ⟨w.heap.size, 8, none⟩ = some (.slice ae ne ce) ∧ W.drew.cell? ⟨w.heap.size, 9, none⟩ = some (.slice ap np cp) ∧ W.drew.cell? ⟨w.heap.size, 10, none⟩ = some (.slice ad nd cd)) ∧ Lw w W.drew ⟨m, pt, sq, ts, ss, cs, h, pr, ex, py, pd⟩ ⟨ac, nc, cc, ae, ne, ce, ap, np, cp, ad, nd, cd⟩) := Lib.hid fun W hh => MK.out _ (hh.2.below (Below.refl _ W).drew)
  simp only [pkc] at HFEW HWR HSIZE ⊢
  go_enter Try.func8, Try.ntmps8
  go_wp2_with fail
  refine (alive5 _).mono ?_
  rintro e w1 ⟨rfl, hB1⟩
  have HL := Lib.hid (HL0.out.below hB1)
  have bx := HL.out.box
  simp only [pkc] at bx
  have d0 : w1.cell? ⟨w.heap.size, 0, none⟩ = some (.bool m) := by rw [cell_of_row w1 _ 0 _ _ _ bx]; rfl
  have d1 : w1.cell? ⟨w.heap.size, 1, none⟩ = some (.int .i64 pt) := by rw [cell_of_row w1 _ 1 _ _ _ bx]; rfl
  have d2 : w1.cell? ⟨w.heap.size, 2, none⟩ = some (.int .u16 sq) := by rw [cell_of_row w1 _ 2 _ _ _ bx]; rfl
  have d3 : w1.cell? ⟨w.heap.size, 3, none⟩ = some (.int .u32 ts) := by rw [cell_of_row w1 _ 3 _ _ _ bx]; rfl
  have d4 : w1.cell? ⟨w.heap.size, 4, none⟩ = some (.int .u32 ss) := by rw [cell_of_row w1 _ 4 _ _ _ bx]; rfl
  have d5 : w1.cell? ⟨w.heap.size, 5, none⟩ = some (.slice ac nc cc) := by rw [cell_of_row w1 _ 5 _ _ _ bx]; rfl
  have d6 : w1.cell? ⟨w.heap.size, 6, none⟩ = some (.bool h) := by rw [cell_of_row w1 _ 6 _ _ _ bx]; rfl
  have d7 : w1.cell? ⟨w.heap.size, 7, none⟩ = some (.int .u16 pr) := by rw [cell_of_row w1 _ 7 _ _ _ bx]; rfl
  have d8 : w1.cell? ⟨w.heap.size, 8, none⟩ = some (.slice ae ne ce) := by rw [cell_of_row w1 _ 8 _ _ _ bx]; rfl
  have d9 : w1.cell? ⟨w.heap.size, 9, none⟩ = some (.slice ap np cp) := by rw [cell_of_row w1 _ 9 _ _ _ bx]; rfl
  have d10 : w1.cell? ⟨w.heap.size, 10, none⟩ = some (.slice ad nd cd) := by rw [cell_of_row w1 _ 10 _ _ _ bx]; rfl
  clear bx hB1 HL0
  go_wp2_with fail
  refine (HFEW.out _).mono ?_
  rintro e w2 ⟨rfl, hB2⟩
  have HL := Lib.hid (HL.out.below hB2)
  have bx := HL.out.box
  simp only [pkc] at bx
  clear d0 d1 d2 d3 d4 d5 d6 d7 d8 d9 d10
  have d0 : w2.cell? ⟨w.heap.size, 0, none⟩ = some (.bool m) := by rw [cell_of_row w2 _ 0 _ _ _ bx]; rfl
  have d1 : w2.cell? ⟨w.heap.size, 1, none⟩ = some (.int .i64 pt) := by rw [cell_of_row w2 _ 1 _ _ _ bx]; rfl
  have d2 : w2.cell? ⟨w.heap.size, 2, none⟩ = some (.int .u16 sq) := by rw [cell_of_row w2 _ 2 _ _ _ bx]; rfl
  have d3 : w2.cell? ⟨w.heap.size, 3, none⟩ = some (.int .u32 ts) := by rw [cell_of_row w2 _ 3 _ _ _ bx]; rfl
  have d4 : w2.cell? ⟨w.heap.size, 4, none⟩ = some (.int .u32 ss) := by rw [cell_of_row w2 _ 4 _ _ _ bx]; rfl
  have d5 : w2.cell? ⟨w.heap.size, 5, none⟩ = some (.slice ac nc cc) := by rw [cell_of_row w2 _ 5 _ _ _ bx]; rfl
  have d6 : w2.cell? ⟨w.heap.size, 6, none⟩ = some (.bool h) := by rw [cell_of_row w2 _ 6 _ _ _ bx]; rfl
  have d7 : w2.cell? ⟨w.heap.size, 7, none⟩ = some (.int .u16 pr) := by rw [cell_of_row w2 _ 7 _ _ _ bx]; rfl
  have d8 : w2.cell? ⟨w.heap.size, 8, none⟩ = some (.slice ae ne ce) := by rw [cell_of_row w2 _ 8 _ _ _ bx]; rfl
  have d9 : w2.cell? ⟨w.heap.size, 9, none⟩ = some (.slice ap np cp) := by rw [cell_of_row w2 _ 9 _ _ _ bx]; rfl
  have d10 : w2.cell? ⟨w.heap.size, 10, none⟩ = some (.slice ad nd cd) := by rw [cell_of_row w2 _ 10 _ _ _ bx]; rfl
  clear bx hB2
  cases fw
  · go_wp2
    go_ret
    exact ⟨rfl, HL.out.low⟩
  obtain ⟨s1, s2, s3, s4⟩ := HSM.out rfl
  simp only at s1 s2 s3 s4
  go_wp2_with fail
  refine (HWR.out (by trivial) _ HL.out.low).mono ?_
  rintro e w3 ⟨aw, nw, cw, rfl, hO3, hB3⟩
  have HL := Lib.hid (HL.out.below hB3)
  by_cases h0 : wc = 0
  case neg =>
    have hnl := HNL.out h0
    rw [hnl] at hO3
    obtain rfl : 0 = nw := hO3.len
    have hw0 : (wc != 0) = true := by simpa using h0
    clear hO3 hB3 d0 d1 d2 d3 d4 d5 d6 d7 d8 d9 d10
    go_wp2
    go_ret
    exact ⟨rfl, HL.out.low⟩
  obtain ⟨hv, he⟩ := HVL.out h0
  rw [he] at hO3
  obtain ⟨hln, hh12, hz15⟩ := HLEN.out h0
  obtain rfl : nw = z := by rw [← hln]; exact hO3.len.symm
  have HO3 := Lib.hid hO3.bat
  have hcap := hO3.cap
  have HCS2 := Lib.hid (HCS.out h0); have HCP2 := Lib.hid (HCP.out h0); have HCN2 := Lib.hid (HCN.out h0)
  clear HCS HCP HCN
  have HSZ := Lib.hid (HSIZE.out (by trivial))
  subst h0
  have hhz : nw = hd + np + nd := HHZ.out
  have e1 : IntKind.i64.wrap ((nw : Int) - (np : Int)) = ((hd + nd : Nat) : Int) := by rw [IntKind.wrap_i64]; omega
  have e2 : IntKind.i64.wrap (((hd + nd : Nat) : Int) - (nd : Int)) = (hd : Int) := by rw [IntKind.wrap_i64]; omega
  have HE := Lib.hid hhz
  have hdl : hd ≤ nw := by omega
  obtain ⟨x, hx, hx2⟩ := and4095 cut
  have hm1 : ((x : Int)).tmod (nw : Int) = ((x % nw : Nat) : Int) := by rw [Int.tmod_eq_emod_of_nonneg (by omega)]; simp
  have hm2 : (x : Int) % (nw : Int) = ((x % nw : Nat) : Int) := by simp
  have hmlt : x % nw < nw := Nat.mod_lt _ (by omega)
  obtain ⟨k, hk⟩ : ∃ k, x % nw = k := ⟨_, rfl⟩
  rw [hk] at hm1 hm2 hmlt
  have hnz : ((nw : Int) == 0) = false := by rw [beq_eq_false_iff_ne]; omega
  obtain ⟨y1, hy1⟩ : ∃ y1, hd + nd = y1 := ⟨_, rfl⟩
  rw [hy1] at e1 e2
  clear hv he hln hO3 hB3 HVL HNL HLEN HWR HSIZE hhz hk HHZ d0 d1 d2 d3 d4 d5 d6 d7 d8 d9 d10 hy1
  go_wp2_with fail
  have hcur := MK.out _ HL.out
  go_region_held3 (fun W : World => (W.cell? ⟨w.heap.size, 0, none⟩ = some (.bool m) ∧ W.cell? ⟨w.heap.size, 1, none⟩ = some (.int .i64 pt) ∧ W.cell? ⟨w.heap.size, 2, none⟩ = some (.int .u16 sq) ∧ W.cell? ⟨w.heap.size, 3, none⟩ = some (.int .u32 ts) ∧ W.cell? ⟨w.heap.size, 4, none⟩ = some (.int .u32 ss) ∧ W.cell? ⟨w.heap.size, 5, none⟩ = some (.slice ac nc cc) ∧ W.cell? ⟨w.heap.size, 6, none⟩ = some (.bool h) ∧ W.cell? ⟨w.heap.size, 7, none⟩ = some (.int .u16 pr) ∧ W.cell? ⟨w.heap.size, 8, none⟩ = some (.slice ae ne ce) ∧ W.cell? ⟨w.heap.size, 9, none⟩ = some (.slice ap np cp) ∧ W.cell? ⟨w.heap.size, 10, none⟩ = some (.slice ad nd cd)) ∧ Lw w W ⟨m, pt, sq, ts, ss, cs, h, pr, ex, py, pd⟩ ⟨ac, nc, cc, ae, ne, ce, ap, np, cp, ad, nd, cd⟩) (first | with_reducible assumption | with_reducible exact DR.out _ (by with_reducible assumption) | with_reducible exact hS4)
    ((go_at_call 25; refine (HSZ.out _).mono ?_; rintro e w4 ⟨rfl, hB4⟩; have hS4 := MK.out _ ((HL.out.below (Below.refl _ w3).drew).below hB4)))
  have HL := Lib.hid hS4.2
  have HB34 := Lib.hid hB4
  clear hcur hS4 hB4
  have HO4 := Lib.hid (((HO3.out.below (Below.refl _ w3).drew).below HB34.out).take k (by omega))
  have HPA := Lib.hid (parse5_any aw k cw (el.take k) w4 HO4.out (by omega))
  have hk1 : (0 : Int) ≤ (k : Int) := by omega
  have hk2 : (k : Int) ≤ (cw : Int) := by omega
  try simp only at hcp
  clear HB34 HO3 HO4
  go_wp2_with fail
  refine (HPA.out).mono ?_
  intro e w5 hP
  by_cases hlt : k < hd
  · rw [HCS2.out k hlt] at hP
    obtain ⟨rfl, hB5⟩ := hP.1 (by decide)
    have HL := Lib.hid (HL.out.below hB5)
    have hltz : (k : Int) < (hd : Int) := by omega
    clear hP hB5 HPA
    go_wp2
    go_ret
    exact ⟨rfl, HL.out.low.alloc HL.out.low.size _⟩
  have hltz : ¬ (k : Int) < (hd : Int) := by omega
  by_cases hnd : nd = 0
  case neg =>
    have hndz : (0 : Int) < (nd : Int) := by omega
    rcases HCP2.out k (by omega) (by omega) with hc | hc
    · rw [hc] at hP
      obtain ⟨⟨ac3, nc3, cc3, ae3, ne3, ce3, ap3, np3, cp3, ad3, nd3, cd3⟩, rfl, hpk, hB5⟩ := hP.2 rfl
      have HL := Lib.hid (HL.out.below hB5)
      have bx := HL.out.box
      have hz5 := HL.out.lt
      simp only [pkc] at bx
      have d10 : w5.cell? ⟨w.heap.size, 10, none⟩ = some (.slice ad nd cd) := by rw [cell_of_row w5 _ 10 _ _ _ bx]; rfl
      clear hP hB5 HPA hpk bx hc
      generalize ppk (el.take k) = q
      obtain ⟨m3, pt3, sq3, ts3, ss3, cs3, h3, pr3, ex3, py3, pd3⟩ := q
      simp only [pkc]
      go_wp2
      go_ret
      exact ⟨rfl, HL.out.low.alloc HL.out.low.size _⟩
    · rw [hc] at hP
      obtain ⟨rfl, hB5⟩ := hP.1 (by decide)
      have HL := Lib.hid (HL.out.below hB5)
      have bx := HL.out.box
      have hz5 := HL.out.lt
      simp only [pkc] at bx
      have d10 : w5.cell? ⟨w.heap.size, 10, none⟩ = some (.slice ad nd cd) := by rw [cell_of_row w5 _ 10 _ _ _ bx]; rfl
      clear hP hB5 HPA bx hc
      go_wp2
      go_ret
      exact ⟨rfl, HL.out.low.alloc HL.out.low.size _⟩
  obtain ⟨c1, c2, c3⟩ := HCN2.out k (by omega) (by omega) hnd
  subst hnd
  rw [c1] at hP
  obtain ⟨⟨ac3, nc3, cc3, ae3, ne3, ce3, ap3, np3, cp3, ad3, nd3, cd3⟩, rfl, hpk, hB5⟩ := hP.2 rfl
  have HL := Lib.hid (HL.out.below hB5)
  have hbp := hpk.pay.1
  try simp only at c2 c3
  rw [c2] at hbp
  have hkk : k - hd ≤ np := by have := HE.out; omega
  have HSA : Hid (∀ o j, Calls Try.prog 24 #[.slice ap3 np3 cp3, .slice ap (k - hd) cp] ((w5.alloc o).drewN j) (Drawn (.bool true) ((w5.alloc o).drewN j))) := Lib.hid fun o j => by
    have hb : Below w5.heap.size w5 ((w5.alloc o).drewN j) := ((Below.refl _ w5).alloc (Nat.le_refl _) _).trans (below_drewN _ _ _)
    have := same_any ap3 ap np3 (k - hd) cp3 cp _ _ _ (hbp.below hb) (((HPY.out.below HL.out.low).take (k - hd) hkk).below hb)
    simpa using this
  have bx := HL.out.box
  have hz5 := HL.out.lt
  simp only [pkc] at bx
  have d0 : w5.cell? ⟨w.heap.size, 0, none⟩ = some (.bool m) := by rw [cell_of_row w5 _ 0 _ _ _ bx]; rfl
  have d1 : w5.cell? ⟨w.heap.size, 1, none⟩ = some (.int .i64 pt) := by rw [cell_of_row w5 _ 1 _ _ _ bx]; rfl
  have d2 : w5.cell? ⟨w.heap.size, 2, none⟩ = some (.int .u16 sq) := by rw [cell_of_row w5 _ 2 _ _ _ bx]; rfl
  have d3 : w5.cell? ⟨w.heap.size, 3, none⟩ = some (.int .u32 ts) := by rw [cell_of_row w5 _ 3 _ _ _ bx]; rfl
  have d4 : w5.cell? ⟨w.heap.size, 4, none⟩ = some (.int .u32 ss) := by rw [cell_of_row w5 _ 4 _ _ _ bx]; rfl
  have d5 : w5.cell? ⟨w.heap.size, 5, none⟩ = some (.slice ac nc cc) := by rw [cell_of_row w5 _ 5 _ _ _ bx]; rfl
  have d6 : w5.cell? ⟨w.heap.size, 6, none⟩ = some (.bool h) := by rw [cell_of_row w5 _ 6 _ _ _ bx]; rfl
  have d7 : w5.cell? ⟨w.heap.size, 7, none⟩ = some (.int .u16 pr) := by rw [cell_of_row w5 _ 7 _ _ _ bx]; rfl
  have d8 : w5.cell? ⟨w.heap.size, 8, none⟩ = some (.slice ae ne ce) := by rw [cell_of_row w5 _ 8 _ _ _ bx]; rfl
  have d9 : w5.cell? ⟨w.heap.size, 9, none⟩ = some (.slice ap np cp) := by rw [cell_of_row w5 _ 9 _ _ _ bx]; rfl
  have d10 : w5.cell? ⟨w.heap.size, 10, none⟩ = some (.slice ad 0 cd) := by rw [cell_of_row w5 _ 10 _ _ _ bx]; rfl
  have hsb : IntKind.i64.wrap ((k : Int) - (hd : Int)) = ((k - hd : Nat) : Int) := by rw [IntKind.wrap_i64]; omega
  have hsb2 : (k : Int) - (hd : Int) = ((k - hd : Nat) : Int) := by omega
  have hq1 : (0 : Int) ≤ ((k - hd : Nat) : Int) := by omega
  have hq2 : ((k - hd : Nat) : Int) ≤ (cp : Int) := by omega
  obtain ⟨kk, hkd⟩ : ∃ kk, k - hd = kk := ⟨_, rfl⟩
  rw [hkd] at hsb hsb2 hq1 hq2 HSA
  clear hP hB5 HPA hpk bx hbp c1 c2 hkd
  generalize ppk (el.take k) = q at c3
  obtain ⟨m3, pt3, sq3, ts3, ss3, cs3, h3, pr3, ex3, py3, pd3⟩ := q
  obtain rfl : sq3 = sq := c3
  simp only [pkc]
  go_wp2_with fail
  go_quiet ((go_at_call 24; exact Calls.quiet_of (HSA.out _ _)))
  go_wp2
  go_ret
  exact ⟨by simp, (HL.out.low.alloc HL.out.low.size _).trans (below_drewN _ _ _)⟩
end Go.Proofs.Ytknpdcnhdmbbiaa


/-
  confluxlaw05.alive.
-/
import Derived.Test.YtkoldfoliigifaaRtpAl0
namespace Go.Proofs.Ytkoldfoliigifaa
open Go.RowKit Go.Shelf
set_option linter.unusedVariables false
/-- What alive has in memory: the bytes in block z, the packet in block P. -/
structure Al5 (w W : World) (P : Nat) (ac ae ap ad : Option Addr) (cc ce cp cd : Nat) : Prop where
  bytes : BAt W (some ⟨w.heap.size, 0, none⟩) 13 alB
  box : W.heap[P]? = some (.cells #[.bool false, .int .i64 96, .int .u16 1, .int .u32 2, .int .u32 3, .slice ac 0 cc, .bool false, .int .u16 0, .slice ae 0 ce, .slice ap 1 cp, .slice ad 0 cd] 27 (0, 0))
  pk : PkAt W alP ⟨ac, 0, cc, ae, 0, ce, ap, 1, cp, ad, 0, cd⟩
  low : Below w.heap.size w W
theorem Al5.below {w W W' : World} {P : Nat} {ac ae ap ad : Option Addr} {cc ce cp cd : Nat} (h : Al5 w W P ac ae ap ad cc ce cp cd) (hb : Below W.heap.size W W') : Al5 w W' P ac ae ap ad cc ce cp cd :=
  ⟨h.bytes.below hb, (hb.block P (Array.getElem?_eq_some_iff.1 h.box).1).trans h.box, h.pk.below hb, h.low.trans (hb.mono h.low.size)⟩
theorem Al5.alloc {w W : World} {P : Nat} {ac ae ap ad : Option Addr} {cc ce cp cd : Nat} (h : Al5 w W P ac ae ap ad cc ce cp cd) (o : Obj) : Al5 w (W.alloc o) P ac ae ap ad cc ce cp cd := h.below ((Below.refl _ W).alloc (Nat.le_refl _) _)
set_option maxHeartbeats 8000000 in
set_option maxRecDepth 100000 in
theorem alive5 (w : World) : Calls Try.prog 4 #[] w (ValB (.bool true) w) := by
  have hb1 : BAt (w.alloc (.cells #[.int .u8 128, .int .u8 96, .int .u8 0, .int .u8 1, .int .u8 0, .int .u8 0, .int .u8 0, .int .u8 2, .int .u8 0, .int .u8 0, .int .u8 0, .int .u8 3, .int .u8 65] 5 (13, 14))) (some ⟨w.heap.size, 0, none⟩) 13 alB := lit_bat' (l := alB) (heap_alloc_new w _) alB_ok (by decide)
  have HP1 := Lib.hid (al_parse (some ⟨w.heap.size, 0, none⟩) 13 _ hb1 (by decide))
  have HB1 := Lib.hid hb1; clear hb1
  have hcv := Lib.run_convert_bytes_const (P := Try.prog) w 25 5 #[.int .u8 128, .int .u8 96, .int .u8 0, .int .u8 1, .int .u8 0, .int .u8 0, .int .u8 0, .int .u8 2, .int .u8 0, .int .u8 0, .int .u8 0, .int .u8 3, .int .u8 65] 13 13 Try.underlying25 Try.underlying5
  simp only [List.size_toArray, List.length_cons, List.length_nil, Nat.reduceAdd] at hcv
  go_enter Try.func4, Try.ntmps4
  go_wp2_with fail
  refine (HP1.out).mono ?_
  rintro e w1 ⟨ac, cc, ae, ce, ap, cp, ad, cd, rfl, hp, hB⟩
  have HA1 : Hid (Al5 w (w1.alloc (.cells #[.bool false, .int .i64 96, .int .u16 1, .int .u32 2, .int .u32 3, .slice ac 0 cc, .bool false, .int .u16 0, .slice ae 0 ce, .slice ap 1 cp, .slice ad 0 cd] 27)) w1.heap.size ac ae ap ad cc ce cp cd) := Lib.hid ⟨(HB1.out.below hB).below ((Below.refl _ w1).alloc (Nat.le_refl _) _), lit_new rfl, hp.at.below ((Below.refl _ w1).alloc (Nat.le_refl _) _), (((Below.refl _ w).alloc (Nat.le_refl _) _).trans (hB.mono (by simp))).alloc (by have := hB.size; simp at this; omega) _⟩
  have hzz : w.heap.size < w1.heap.size := by have := hB.size; simp at this; omega
  clear hp hB HP1 HB1
  simp only [pkc, alP]
  go_wp2_with fail
  obtain ⟨w2, hw2⟩ : ∃ w2, w1.alloc (.cells #[.bool false, .int .i64 96, .int .u16 1, .int .u32 2, .int .u32 3, .slice ac 0 cc, .bool false, .int .u16 0, .slice ae 0 ce, .slice ap 1 cp, .slice ad 0 cd] 27) = w2 := ⟨_, rfl⟩
  rw [hw2] at HA1 ⊢
  have hz2 : w1.heap.size < w2.heap.size := by rw [← hw2]; simp
  clear hw2
  obtain ⟨P, hP⟩ : ∃ P, w1.heap.size = P := ⟨_, rfl⟩
  rw [hP] at HA1 hzz hz2 ⊢
  clear hP
  refine (al_write ac ae ap ad cc ce cp cd w2 HA1.out.pk).mono ?_
  rintro e w3 ⟨aw, nw, cw, rfl, hO3, hB3⟩
  obtain rfl : 13 = nw := hO3.len
  have HA3 := Lib.hid (HA1.out.below hB3)
  have HO3 := Lib.hid hO3.bat
  have hz3 : P < w3.heap.size := by have := hB3.size; omega
  clear hO3 hB3 HA1 hz2
  go_wp2_with fail
  refine (al_parse1 (some ⟨w3.heap.size, 0, none⟩) 1 64 21 _ (lit_bat (l := [64]) (heap_alloc_new w3 _) (ok_lit rfl) (by decide)) (by decide) al_c40 (by decide)).mono ?_
  rintro e w4 ⟨rfl, hB4⟩
  have HA4 := Lib.hid ((HA3.out.alloc _).below hB4)
  have HB34 := Lib.hid (show Below w3.heap.size w3 w4 from ((Below.refl _ w3).alloc (Nat.le_refl _) _).trans (hB4.mono (by simp)))
  clear hB4 HA3
  go_wp2_with fail
  refine (al_parse1 (some ⟨w4.heap.size + 1, 0, none⟩) 1 128 20 _ (lit_bat (l := [128]) (lit_new (by simp)) (ok_lit rfl) (by decide)) (by decide) al_c80 (by decide)).mono ?_
  rintro e w5 ⟨rfl, hB5⟩
  have HA5 := Lib.hid (((HA4.out.alloc _).alloc _).below hB5)
  have HB35 := Lib.hid (show Below w3.heap.size w3 w5 from (((HB34.out).alloc HB34.out.size _).alloc (by have := HB34.out.size; simp; omega) _).trans (hB5.mono (by have := HB34.out.size; simp; omega)))
  clear hB5 HA4 HB34
  go_wp2_with fail
  refine (al_writez _).mono ?_
  rintro e w6 ⟨ax, nx, cx, rfl, hO6, hB6⟩
  have HA6 := Lib.hid ((HA5.out.alloc _).below hB6)
  have HB36 := Lib.hid (show Below w3.heap.size w3 w6 from (HB35.out.alloc HB35.out.size _).trans (hB6.mono (by have := HB35.out.size; simp; omega)))
  have hP6 : P < w6.heap.size := by have := HB36.out.size; omega
  clear hO6 hB6 HA5 HB35
  have bx := HA6.out.box
  have d0 : w6.cell? ⟨P, 0, none⟩ = some (.bool false) := by rw [cell_of_row w6 _ 0 _ _ _ bx]; rfl
  have d1 : w6.cell? ⟨P, 1, none⟩ = some (.int .i64 96) := by rw [cell_of_row w6 _ 1 _ _ _ bx]; rfl
  have d2 : w6.cell? ⟨P, 2, none⟩ = some (.int .u16 1) := by rw [cell_of_row w6 _ 2 _ _ _ bx]; rfl
  have d3 : w6.cell? ⟨P, 3, none⟩ = some (.int .u32 2) := by rw [cell_of_row w6 _ 3 _ _ _ bx]; rfl
  have d4 : w6.cell? ⟨P, 4, none⟩ = some (.int .u32 3) := by rw [cell_of_row w6 _ 4 _ _ _ bx]; rfl
  have d5 : w6.cell? ⟨P, 5, none⟩ = some (.slice ac 0 cc) := by rw [cell_of_row w6 _ 5 _ _ _ bx]; rfl
  have d6 : w6.cell? ⟨P, 6, none⟩ = some (.bool false) := by rw [cell_of_row w6 _ 6 _ _ _ bx]; rfl
  have d7 : w6.cell? ⟨P, 7, none⟩ = some (.int .u16 0) := by rw [cell_of_row w6 _ 7 _ _ _ bx]; rfl
  have d8 : w6.cell? ⟨P, 8, none⟩ = some (.slice ae 0 ce) := by rw [cell_of_row w6 _ 8 _ _ _ bx]; rfl
  have d9 : w6.cell? ⟨P, 9, none⟩ = some (.slice ap 1 cp) := by rw [cell_of_row w6 _ 9 _ _ _ bx]; rfl
  have d10 : w6.cell? ⟨P, 10, none⟩ = some (.slice ad 0 cd) := by rw [cell_of_row w6 _ 10 _ _ _ bx]; rfl
  clear bx
  go_wp2_with fail
  clear d0 d1 d2 d3 d4 d5 d6 d7 d8 d9 d10
  refine (clone_any alP ⟨ac, 0, cc, ae, 0, ce, ap, 1, cp, ad, 0, cd⟩ w6 HA6.out.pk (al_sm _ _ _ _ _ _ _ _)).mono ?_
  rintro e w7 ⟨a1, c1, a2, c2, a3, c3, a4, c4, rfl, hOw, hB7⟩
  obtain ⟨g, rfl⟩ : ∃ g, a3 = some ⟨g, 0, none⟩ := hOw.pay.form Nat.zero_lt_one
  have hgb := hOw.pay.blk _ rfl
  simp only at hgb
  have hg7 : g < w7.heap.size := hgb.2
  have hc7 : w7.cell? ⟨g, 0, none⟩ = some (.int .u8 65) := by
    obtain ⟨b, o, hr⟩ := hOw.pay.bat.row
    obtain ⟨e1, _, e3, _⟩ := hr 0 Nat.zero_lt_one
    cases e1; exact e3
  have hf7 : w7.frozen? ⟨g, 0, none⟩ = false := by
    rcases hOw.pay.row.2 with ⟨hv, _⟩ | ⟨g', cap, cur, hv, _, hh, _⟩
    · cases hv
    · cases hv; exact frozen_of_row w7 _ 0 _ _ hh
  have hcap : 1 ≤ c3 := by
    rcases hOw.pay.row.2 with ⟨hv, _⟩ | ⟨g', cap, cur, hv, _, hh, h1, _⟩
    · cases hv
    · cases hv; exact h1
  simp only [pkc, alP]
  have HB7 := Lib.hid hB7; have HOW := Lib.hid hOw
  have h01 : (0 : Int) < ((1 : Nat) : Int) := by decide
  clear hB7 hOw hgb
  go_wp2_with fail
  obtain ⟨w9, hw9⟩ : ∃ w9, (w7.setCell ⟨g, 0, none⟩ (.int .u8 66)).alloc (.cells #[.bool false, .int .i64 96, .int .u16 1, .int .u32 2, .int .u32 3, .slice a1 0 c1, .bool false, .int .u16 0, .slice a2 0 c2, .slice (some ⟨g, 0, none⟩) 1 c3, .slice a4 0 c4] 27) = w9 := ⟨_, rfl⟩
  rw [hw9]
  have hz9 : w9.heap.size = w7.heap.size + 1 := by rw [← hw9]; simp
  have hB79 : Below w6.heap.size w7 w9 := by
    rw [← hw9]
    refine ⟨rfl, rfl, rfl, by simp, fun k hk => ?_⟩
    have h1 := (HOW.out.pay.blk _ rfl).1
    have h2 := HB7.out.size
    simp only at h1
    exact (heap_alloc_old _ _ (by simp; omega)).trans (Below.heap_setCell w7 _ _ k (by simp; omega))
  have hB69 : Below w6.heap.size w6 w9 := HB7.out.trans hB79
  have hq9 : w9.heap[w7.heap.size]? = some (.cells #[.bool false, .int .i64 96, .int .u16 1, .int .u32 2, .int .u32 3, .slice a1 0 c1, .bool false, .int .u16 0, .slice a2 0 c2, .slice (some ⟨g, 0, none⟩) 1 c3, .slice a4 0 c4] 27 (0, 0)) := by rw [← hw9]; exact lit_new (by simp)
  have hpq : PkAt w9 alQ ⟨a1, 0, c1, a2, 0, c2, some ⟨g, 0, none⟩, 1, c3, a4, 0, c4⟩ := by
    refine ⟨⟨rfl, 0, 0, fun i hi => by simp at hi⟩, ⟨rfl, by simp, 0, 0, fun i hi => by simp at hi⟩, ?_, ⟨rfl, by simp, 0, 0, fun i hi => by simp at hi⟩, by decide, by decide, by decide, by decide⟩
    rw [← hw9]
    exact (HOW.out.pay.set 0 66 (by decide)).bat.below ((Below.refl _ _).alloc (Nat.le_refl _) _)
  have HA9 := Lib.hid (HA6.out.below hB69)
  have HO9 := Lib.hid (HO3.out.below (HB36.out.trans (hB69.mono HB36.out.size)))
  have HPQ := Lib.hid hpq; have HQ9 := Lib.hid hq9
  obtain ⟨Q, hQ⟩ : ∃ Q, w7.heap.size = Q := ⟨_, rfl⟩
  rw [hQ] at HQ9 ⊢
  have hzQ : Q < w9.heap.size := by omega
  clear hw9 hz9 hB79 hB69 hq9 hpq hQ HA6 HO3 HB36 HOW HB7 hc7 hf7 hg7
  refine (al_seq (some ⟨w.heap.size, 0, none⟩) 13 w9 HA9.out.bytes (by decide)).mono ?_
  rintro e w10 ⟨rfl, hB⟩
  have HA10 := Lib.hid (HA9.out.below hB); have HO10 := Lib.hid (HO9.out.below hB); have HPQ10 := Lib.hid (HPQ.out.below hB); have HQ10 := Lib.hid ((hB.block Q hzQ).trans HQ9.out)
  have hzQ : Q < w10.heap.size := by have := hB.size; omega
  clear hB HA9 HO9 HPQ HQ9
  go_wp2_with fail
  refine (al_ssrc (some ⟨w.heap.size, 0, none⟩) 13 w10 HA10.out.bytes (by decide)).mono ?_
  rintro e w11 ⟨rfl, hB⟩
  have HA11 := Lib.hid (HA10.out.below hB); have HO11 := Lib.hid (HO10.out.below hB); have HPQ11 := Lib.hid (HPQ10.out.below hB); have HQ11 := Lib.hid ((hB.block Q hzQ).trans HQ10.out)
  have hzQ : Q < w11.heap.size := by have := hB.size; omega
  clear hB HA10 HO10 HPQ10 HQ10
  go_wp2_with fail
  refine (al_pt (some ⟨w.heap.size, 0, none⟩) 13 w11 HA11.out.bytes (by decide)).mono ?_
  rintro e w12 ⟨rfl, hB⟩
  have HA12 := Lib.hid (HA11.out.below hB); have HO12 := Lib.hid (HO11.out.below hB); have HPQ12 := Lib.hid (HPQ11.out.below hB); have HQ12 := Lib.hid ((hB.block Q hzQ).trans HQ11.out)
  have hzQ : Q < w12.heap.size := by have := hB.size; omega
  clear hB HA11 HO11 HPQ11 HQ11
  go_wp2_with fail
  refine (al_pt0 w12).mono ?_
  rintro e w13 ⟨rfl, hB⟩
  have HA := Lib.hid (HA12.out.below hB); have HO := Lib.hid (HO12.out.below hB); have HPQ := Lib.hid (HPQ12.out.below hB)
  have hq := (hB.block Q hzQ).trans HQ12.out
  have hzQ : Q < w13.heap.size := by have := hB.size; omega
  clear hB HA12 HO12 HPQ12 HQ12
  have bx := HA.out.box
  have d0 : w13.cell? ⟨P, 0, none⟩ = some (.bool false) := by rw [cell_of_row w13 _ 0 _ _ _ bx]; rfl
  have d1 : w13.cell? ⟨P, 1, none⟩ = some (.int .i64 96) := by rw [cell_of_row w13 _ 1 _ _ _ bx]; rfl
  have d2 : w13.cell? ⟨P, 2, none⟩ = some (.int .u16 1) := by rw [cell_of_row w13 _ 2 _ _ _ bx]; rfl
  have d3 : w13.cell? ⟨P, 3, none⟩ = some (.int .u32 2) := by rw [cell_of_row w13 _ 3 _ _ _ bx]; rfl
  have d4 : w13.cell? ⟨P, 4, none⟩ = some (.int .u32 3) := by rw [cell_of_row w13 _ 4 _ _ _ bx]; rfl
  have d5 : w13.cell? ⟨P, 5, none⟩ = some (.slice ac 0 cc) := by rw [cell_of_row w13 _ 5 _ _ _ bx]; rfl
  have d6 : w13.cell? ⟨P, 6, none⟩ = some (.bool false) := by rw [cell_of_row w13 _ 6 _ _ _ bx]; rfl
  have d7 : w13.cell? ⟨P, 7, none⟩ = some (.int .u16 0) := by rw [cell_of_row w13 _ 7 _ _ _ bx]; rfl
  have d8 : w13.cell? ⟨P, 8, none⟩ = some (.slice ae 0 ce) := by rw [cell_of_row w13 _ 8 _ _ _ bx]; rfl
  have d9 : w13.cell? ⟨P, 9, none⟩ = some (.slice ap 1 cp) := by rw [cell_of_row w13 _ 9 _ _ _ bx]; rfl
  have d10 : w13.cell? ⟨P, 10, none⟩ = some (.slice ad 0 cd) := by rw [cell_of_row w13 _ 10 _ _ _ bx]; rfl
  have e0 : w13.cell? ⟨Q, 0, none⟩ = some (.bool false) := by rw [cell_of_row w13 _ 0 _ _ _ hq]; rfl
  have e1 : w13.cell? ⟨Q, 1, none⟩ = some (.int .i64 96) := by rw [cell_of_row w13 _ 1 _ _ _ hq]; rfl
  have e2 : w13.cell? ⟨Q, 2, none⟩ = some (.int .u16 1) := by rw [cell_of_row w13 _ 2 _ _ _ hq]; rfl
  have e3 : w13.cell? ⟨Q, 3, none⟩ = some (.int .u32 2) := by rw [cell_of_row w13 _ 3 _ _ _ hq]; rfl
  have e4 : w13.cell? ⟨Q, 4, none⟩ = some (.int .u32 3) := by rw [cell_of_row w13 _ 4 _ _ _ hq]; rfl
  have e5 : w13.cell? ⟨Q, 5, none⟩ = some (.slice a1 0 c1) := by rw [cell_of_row w13 _ 5 _ _ _ hq]; rfl
  have e6 : w13.cell? ⟨Q, 6, none⟩ = some (.bool false) := by rw [cell_of_row w13 _ 6 _ _ _ hq]; rfl
  have e7 : w13.cell? ⟨Q, 7, none⟩ = some (.int .u16 0) := by rw [cell_of_row w13 _ 7 _ _ _ hq]; rfl
  have e8 : w13.cell? ⟨Q, 8, none⟩ = some (.slice a2 0 c2) := by rw [cell_of_row w13 _ 8 _ _ _ hq]; rfl
  have e9 : w13.cell? ⟨Q, 9, none⟩ = some (.slice (some ⟨g, 0, none⟩) 1 c3) := by rw [cell_of_row w13 _ 9 _ _ _ hq]; rfl
  have e10 : w13.cell? ⟨Q, 10, none⟩ = some (.slice a4 0 c4) := by rw [cell_of_row w13 _ 10 _ _ _ hq]; rfl
  have st1 := str_of w13 ap 1 cp [65] HA.out.pk.pay
  have st2 := str_of w13 aw 13 cw alB HO.out
  have st3 := str_of w13 (some ⟨w.heap.size, 0, none⟩) 13 13 alB HA.out.bytes
  have hA65 : (bytesOf [65]).toList = [65] := by rw [ByteArray.toList_eq]; rfl
  clear bx hq
  go_wp2_with fail
  refine (same5_any alP alQ ⟨ac, 0, cc, ae, 0, ce, ap, 1, cp, ad, 0, cd⟩ ⟨a1, 0, c1, a2, 0, c2, some ⟨g, 0, none⟩, 1, c3, a4, 0, c4⟩ w13 HA.out.pk HPQ.out (al_sm _ _ _ _ _ _ _ _) (al_sm _ _ _ _ _ _ _ _)).mono ?_
  rintro e w14 ⟨rfl, hB⟩
  have HA14 := Lib.hid (HA.out.below hB)
  have bx := HA14.out.box
  clear hB HA HO HPQ st1 st2 st3 hA65 d0 d1 d2 d3 d4 d5 d6 d7 d8 d9 d10 e0 e1 e2 e3 e4 e5 e6 e7 e8 e9 e10
  have d0 : w14.cell? ⟨P, 0, none⟩ = some (.bool false) := by rw [cell_of_row w14 _ 0 _ _ _ bx]; rfl
  have d1 : w14.cell? ⟨P, 1, none⟩ = some (.int .i64 96) := by rw [cell_of_row w14 _ 1 _ _ _ bx]; rfl
  have d2 : w14.cell? ⟨P, 2, none⟩ = some (.int .u16 1) := by rw [cell_of_row w14 _ 2 _ _ _ bx]; rfl
  have d3 : w14.cell? ⟨P, 3, none⟩ = some (.int .u32 2) := by rw [cell_of_row w14 _ 3 _ _ _ bx]; rfl
  have d4 : w14.cell? ⟨P, 4, none⟩ = some (.int .u32 3) := by rw [cell_of_row w14 _ 4 _ _ _ bx]; rfl
  have d5 : w14.cell? ⟨P, 5, none⟩ = some (.slice ac 0 cc) := by rw [cell_of_row w14 _ 5 _ _ _ bx]; rfl
  have d6 : w14.cell? ⟨P, 6, none⟩ = some (.bool false) := by rw [cell_of_row w14 _ 6 _ _ _ bx]; rfl
  have d7 : w14.cell? ⟨P, 7, none⟩ = some (.int .u16 0) := by rw [cell_of_row w14 _ 7 _ _ _ bx]; rfl
  have d8 : w14.cell? ⟨P, 8, none⟩ = some (.slice ae 0 ce) := by rw [cell_of_row w14 _ 8 _ _ _ bx]; rfl
  have d9 : w14.cell? ⟨P, 9, none⟩ = some (.slice ap 1 cp) := by rw [cell_of_row w14 _ 9 _ _ _ bx]; rfl
  have d10 : w14.cell? ⟨P, 10, none⟩ = some (.slice ad 0 cd) := by rw [cell_of_row w14 _ 10 _ _ _ bx]; rfl
  clear bx
  rw [al_pq]
  go_wp2_with fail
  refine (same5_any alP alP ⟨ac, 0, cc, ae, 0, ce, ap, 1, cp, ad, 0, cd⟩ ⟨ac, 0, cc, ae, 0, ce, ap, 1, cp, ad, 0, cd⟩ w14 HA14.out.pk HA14.out.pk (al_sm _ _ _ _ _ _ _ _) (al_sm _ _ _ _ _ _ _ _)).mono ?_
  rintro e w15 ⟨rfl, hB⟩
  have HA15 := Lib.hid (HA14.out.below hB)
  have bx := HA15.out.box
  clear hB HA14 d0 d1 d2 d3 d4 d5 d6 d7 d8 d9 d10
  have d0 : w15.cell? ⟨P, 0, none⟩ = some (.bool false) := by rw [cell_of_row w15 _ 0 _ _ _ bx]; rfl
  have d1 : w15.cell? ⟨P, 1, none⟩ = some (.int .i64 96) := by rw [cell_of_row w15 _ 1 _ _ _ bx]; rfl
  have d2 : w15.cell? ⟨P, 2, none⟩ = some (.int .u16 1) := by rw [cell_of_row w15 _ 2 _ _ _ bx]; rfl
  have d3 : w15.cell? ⟨P, 3, none⟩ = some (.int .u32 2) := by rw [cell_of_row w15 _ 3 _ _ _ bx]; rfl
  have d4 : w15.cell? ⟨P, 4, none⟩ = some (.int .u32 3) := by rw [cell_of_row w15 _ 4 _ _ _ bx]; rfl
  have d5 : w15.cell? ⟨P, 5, none⟩ = some (.slice ac 0 cc) := by rw [cell_of_row w15 _ 5 _ _ _ bx]; rfl
  have d6 : w15.cell? ⟨P, 6, none⟩ = some (.bool false) := by rw [cell_of_row w15 _ 6 _ _ _ bx]; rfl
  have d7 : w15.cell? ⟨P, 7, none⟩ = some (.int .u16 0) := by rw [cell_of_row w15 _ 7 _ _ _ bx]; rfl
  have d8 : w15.cell? ⟨P, 8, none⟩ = some (.slice ae 0 ce) := by rw [cell_of_row w15 _ 8 _ _ _ bx]; rfl
  have d9 : w15.cell? ⟨P, 9, none⟩ = some (.slice ap 1 cp) := by rw [cell_of_row w15 _ 9 _ _ _ bx]; rfl
  have d10 : w15.cell? ⟨P, 10, none⟩ = some (.slice ad 0 cd) := by rw [cell_of_row w15 _ 10 _ _ _ bx]; rfl
  clear bx
  rw [pkEq_self]
  go_wp2_with fail
  refine (size_any alP ⟨ac, 0, cc, ae, 0, ce, ap, 1, cp, ad, 0, cd⟩ w15 (al_sm _ _ _ _ _ _ _ _)).mono ?_
  rintro e w16 ⟨rfl, hB⟩
  have HA16 := Lib.hid (HA15.out.below hB)
  clear hB HA15 d0 d1 d2 d3 d4 d5 d6 d7 d8 d9 d10
  rw [(al_w ac ae ap ad cc ce cp cd).2.2]
  go_wp2_with fail
  refine (isrtcp_any (some ⟨w16.heap.size, 0, none⟩) 2 2 [128, 200] _ (lit_bat (l := [128, 200]) (heap_alloc_new w16 _) (ok_lit rfl) (by decide)) (by decide) true (by decide)).mono ?_
  rintro e w17 ⟨rfl, rfl⟩
  have HA17 := Lib.hid (HA16.out.alloc (.cells #[.int .u8 128, .int .u8 200] 5))
  clear HA16
  go_wp2_with fail
  refine (isrtcp_any (some ⟨w.heap.size, 0, none⟩) 13 13 alB _ HA17.out.bytes (by decide) false (by decide)).mono ?_
  rintro e w18 ⟨rfl, rfl⟩
  go_wp2
  go_ret
  exact ⟨rfl, HA17.out.low⟩
end Go.Proofs.Ytkoldfoliigifaa

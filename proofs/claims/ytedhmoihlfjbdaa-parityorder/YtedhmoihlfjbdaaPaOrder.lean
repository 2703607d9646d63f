
/-
  ParityOrder: the walk.
-/
import Derived.Test.YtedhmoihlfjbdaaPaQ5
import Derived.Test.YtedhmoihlfjbdaaPaOrd2
namespace Go.Proofs.Ytedhmoihlfjbdaa
open Go.RowKit Go.Shelf
set_option linter.unusedVariables false
set_option maxHeartbeats 2000000 in
set_option maxRecDepth 100000 in
theorem order_core (halive : ∀ w, Calls Try.prog 12 #[] w (ValB (.bool true) w)) (a : Option Addr) (len cap : Nat) (ls : List (List Int)) (at' bit : Int) (w : World) (hP0 : PksW w a len ls) (hcl : len ≤ cap) (hlenw : len ≤ 9223372036854775807) :
    Calls Try.prog 5 #[.slice a len cap, .int .i64 at', .int .i64 bit] w (ValB (.bool true) w) := by
  have HP0 := Lib.hid hP0
  have HCAP := Lib.hid hcl
  clear hP0 hcl
  go_enter Try.func5, Try.ntmps5
  go_wp2_with fail
  refine (halive _).mono ?_
  rintro e w1 ⟨rfl, hB1⟩
  have HP1 := Lib.hid (HP0.out.below hB1); have HB1 := Lib.hid hB1; clear hB1 HP0
  have hcount := HP1.out.count
  have HFEW := Lib.hid fun W (hW : Below w1.heap.size w1 W) => few_pkw a len cap ls 40 400 W (HP1.out.below hW) hlenw (by decide)
  go_wp2_with fail
  refine (HFEW.out _ (Below.refl _ _)).mono ?_
  rintro e w2 ⟨rfl, hB2⟩
  have HP2 := Lib.hid (HP1.out.below hB2); have HB2 := Lib.hid (bcomp HB1.out hB2); clear hB2 HFEW HP1 HB1
  cases hfew : Pa.few ls 40 400
  · go_wp2_with fail
    go_ret
    exact ⟨rfl, HB2.out⟩
  have hfl := few_le hfew
  rw [hcount] at hfl
  have hlen : len ≤ 1000000000 := by omega
  have HOK := Lib.hid HP2.out.pkok
  have HBS := Lib.hid (HP2.out.pkb (fun k hk => by have := hfl.2 k hk; omega))
  have HPP := Lib.hid (HP2.out.at' (fun k hk => by have := hfl.2 k hk; omega))
  clear hfl HP2
  have HP2 := HPP
  clear HPP
  go_wp2_with fail
  clear hfew
  refine (make_any a len cap ls w2 HP2.out hlen).mono ?_
  rintro e w3 hout
  obtain ⟨q, BB, X, ab, nb, cb, rfl, hB3, hrep⟩ := hout.rep
  have HP3 := Lib.hid (HP2.out.below hB3); have HB3 := Lib.hid (bcomp HB2.out hB3); have HREP := Lib.hid hrep
  clear hB3 hrep hout HP2 HB2
  by_cases hc : Pa.code ls = 0
  case neg =>
    obtain ⟨h1, rfl, rfl, rfl, rfl, rfl⟩ := HREP.out.bad hc
    have hcb : (Pa.code ls == 0) = false := beq_eq_false_iff_ne.2 hc
    have hno : Pa.holds (fun _ => 0) 0 0 [] ls = false := by unfold Pa.holds; rw [decide_eq_false hc]; rfl
    have HHO := Lib.hid fun W (hW : Below w3.heap.size w3 W) => holds_any (fun _ => 0) 0 0 none 0 0 [] a len cap ls W (HP3.out.below hW) hlen (fun _ => by decide) (BAt.none W) (by omega)
    rw [hno] at HHO
    clear hc HREP hno
    generalize Pa.code ls = cd at *
    unfold rpc at *
    simp only [h1] at *
    clear h1
    go_wp2_with fail
    refine (HHO.out _ ((Below.refl _ w3).alloc (Nat.le_refl _) _)).mono ?_
    rintro e w4 ⟨rfl, hB4⟩
    have HB4 := Lib.hid (bcomp (HB3.out.alloc HB3.out.size _) hB4)
    clear hB4
    go_wp2_with fail
    go_ret
    exact ⟨rfl, HB4.out⟩
  obtain ⟨hq, hBB, hX, hnb, hO⟩ := HREP.out.good hc
  rw [hc]
  obtain ⟨w4, hw4⟩ : ∃ u, w3.alloc (.cells #[.int .u8 (q 0), .int .u8 (q 1), .int .u8 (q 2), .int .u8 (q 3), .int .u8 (q 4), .int .u8 (q 5), .int .u8 (q 6), .int .u8 (q 7), .int .u16 BB, .int .u64 (Mk.H X), .int .u64 (Mk.L X), .slice ab nb cb] 32) = u := ⟨_, rfl⟩
  have h34 : Below w3.heap.size w3 w4 := by rw [← hw4]; exact (Below.refl _ w3).alloc (Nat.le_refl _) _
  have hT4 : PT w a len ls w3.heap.size q BB X ab nb cb (Pa.body ls) w4 := ⟨HP3.out.below h34, by rw [← hw4]; exact lit_new rfl, (hO.below h34).bat, bcomp HB3.out h34⟩
  have HT4 := Lib.hid hT4
  have HF := Lib.hid (And.intro hc (And.intro hq (And.intro hBB (And.intro hX hnb))))
  have HW4 := Lib.hid hw4
  clear hc hq hBB hX hnb hO h34 hT4 HREP HP3 HB3
  unfold rpc
  go_wp2_with fail
  generalize w3.heap.size = R at *
  obtain ⟨b, o, av, nv, cv, hrow⟩ := HT4.out.ps.row
  have HROW := Lib.hid hrow
  have hgd := (Pa.good_iff HOK.out).1 HF.out.1
  have hl48 := hgd.few
  have hpos := hgd.pos
  rw [hcount] at hl48 hpos
  have hS0 : TS w4 av nv cv len 0 (some ⟨w4.heap.size, 0, none⟩) 0 (w4.alloc (.cells #[] 26)) := ⟨World.ownsRow_made w4 _ 0 (Nat.le_refl _) (by decide) rfl, (Below.refl _ w4).alloc (Nat.le_refl _) _⟩
  have HS0 := Lib.hid hS0
  have hw4' := HW4.out
  clear hrow hgd hS0
  go_loopw [9, 38] (fun bv iv wr => ∃ (k : Nat) (a' : Option Addr) (c' : Nat), k ≤ len ∧ iv = .int .i64 k ∧ bv = .slice a' k c' ∧ Hid (TS w4 av nv cv len k a' c' wr)) (fun _ iv _ => len - (intOf iv).toNat)
  case atStart => exact ⟨0, _, 0, Nat.zero_le _, rfl, rfl, HS0⟩
  case round =>
    clear HS0
    obtain ⟨k, a', c', hk, rfl, rfl, HK⟩ := hrel
    by_cases hlt : k < len
    · have hltz : (k : Int) < (len : Int) := by omega
      obtain ⟨rfl, hb1, hb2, _, _, _⟩ := HROW.out (len - 1 - k) (by omega)
      obtain ⟨m, hm⟩ : ∃ m, len - 1 - k = m := ⟨_, rfl⟩
      have hix := idx_rev hlt hlen
      obtain ⟨a5, c5, w5, hrun, hT5⟩ := HK.out.push (by omega) 22
      rw [hm] at hb2 hix hrun
      have e1 : wr.cell? ⟨b, o + m, none⟩ = some (.slice (av m) (nv m) (cv m)) := (HK.out.low.cell (p := ⟨b, o + m, none⟩) hb1).trans hb2
      obtain ⟨hi1, hi2, hi3⟩ := hix
      have hmz : (m : Int) < (len : Int) := by omega
      have hm0 : (0 : Int) ≤ (m : Int) := by omega
      have hmn : m < len := by omega
      have HRUN := Lib.hid hrun; have HT5 := Lib.hid hT5
      clear hrun hT5 hb1 hb2 hm
      go_wp2_with (at_builtin; refine Lib.wpList_append_run _ rfl (.tmp 41) (.tmp 50) 22 22 rfl (.slice a' k c') _ (by rfl) (by rfl) _ _ HRUN.out ?_)
      go_roundw
      case rel => exact ⟨k + 1, a5, c5, by omega, by go_num, rfl, HT5⟩
      case measure => simp [intOf]; omega
    · obtain rfl : len = k := by omega
      obtain ⟨hrc, hrok⟩ := rev_code HOK.out HF.out.1
      have hTr := HT4.out.below HK.out.low
      have hpr : PksAt wr a' len ls.reverse := pks_row HK.out.own _ (by rw [List.length_reverse, hcount]) (fun j hj => by
        obtain ⟨_, _, _, r1, r2, r3⟩ := HROW.out (len - 1 - j) (by omega)
        exact ⟨by rw [rev_at (by omega), hcount]; exact r1.below HK.out.low, r2, r3⟩)
      have HTr := Lib.hid hTr; have HPR := Lib.hid hpr
      have HMK := Lib.hid (make_good2 a' len c' ls.reverse wr hpr hlen hrc)
      have HRC := Lib.hid hrc
      clear hTr hpr hrc hrok HK HT4 HROW HW4 hw4'
      go_wp2_with fail
      refine HMK.out.mono ?_
      rintro e w5 ⟨qs, Bs, Xs, sa, ns, cs, rfl, hqs, hBs, hXs, hns, hbs, hB5⟩
      obtain ⟨w6, hw6⟩ : ∃ u, w5.alloc (.cells #[.int .u8 (qs 0), .int .u8 (qs 1), .int .u8 (qs 2), .int .u8 (qs 3), .int .u8 (qs 4), .int .u8 (qs 5), .int .u8 (qs 6), .int .u8 (qs 7), .int .u16 Bs, .int .u64 (Mk.H Xs), .int .u64 (Mk.L Xs), .slice sa ns cs] 32) = u := ⟨_, rfl⟩
      have h56 : Below w5.heap.size w5 w6 := by rw [← hw6]; exact (Below.refl _ w5).alloc (Nat.le_refl _) _
      have hs6 : w6.heap[w5.heap.size]? = some (.cells #[.int .u8 (qs 0), .int .u8 (qs 1), .int .u8 (qs 2), .int .u8 (qs 3), .int .u8 (qs 4), .int .u8 (qs 5), .int .u8 (qs 6), .int .u8 (qs 7), .int .u16 Bs, .int .u64 (Mk.H Xs), .int .u64 (Mk.L Xs), .slice sa ns cs] 32 (0, 0)) := by rw [← hw6]; exact lit_new rfl
      have hr6 := bcomp hB5 h56
      have HQ := Lib.hid (show Q3 w a len ls R q BB X ab nb cb (Pa.body ls) w5.heap.size qs Bs Xs sa ns cs (Pa.body ls.reverse) a' len ls.reverse w6 from ⟨HTr.out.below hr6, hs6, hbs.below h56, HPR.out.below hr6⟩)
      have hrb := rev_base HOK.out HF.out.1
      have hry := rev_bytes HBS.out
      have hlq : ∀ j, qs j = q j := fun j => by rw [hqs j, hry.1, HF.out.2.1 j]
      have hBB : Bs = BB := by rw [hBs, hrb.1, HF.out.2.2.1]
      have hXX : Xs = X := by rw [hXs, hrb.2, HF.out.2.2.2.1]
      have hsr : (decide ([q 0, q 1, q 2, q 3, q 4, q 5, q 6, q 7] = [qs 0, qs 1, qs 2, qs 3, qs 4, qs 5, qs 6, qs 7]) && ((BB == Bs) && (((Mk.H X : Int) == (Mk.H Xs : Int)) && (((Mk.L X : Int) == (Mk.L Xs : Int)) && decide (Pa.body ls = Pa.body ls.reverse))))) = true := by
        simp only [hlq, hBB, hXX, hry.2]; simp
      have HSR : Hid (∀ W, Q3 w a len ls R q BB X ab nb cb (Pa.body ls) w5.heap.size qs Bs Xs sa ns cs (Pa.body ls.reverse) a' len ls.reverse W → Calls Try.prog 19 #[.agg #[.int .u8 (q 0), .int .u8 (q 1), .int .u8 (q 2), .int .u8 (q 3), .int .u8 (q 4), .int .u8 (q 5), .int .u8 (q 6), .int .u8 (q 7), .int .u16 BB, .int .u64 (Mk.H X), .int .u64 (Mk.L X), .slice ab nb cb], .agg #[.int .u8 (qs 0), .int .u8 (qs 1), .int .u8 (qs 2), .int .u8 (qs 3), .int .u8 (qs 4), .int .u8 (qs 5), .int .u8 (qs 6), .int .u8 (qs 7), .int .u16 Bs, .int .u64 (Mk.H Xs), .int .u64 (Mk.L Xs), .slice sa ns cs]] W (ValB (.bool true) W)) := Lib.hid fun W hW => by
        have h := samerep_any q qs BB (Mk.H X) (Mk.L X) Bs (Mk.H Xs) (Mk.L Xs) ab sa nb cb ns cs (Pa.body ls) (Pa.body ls.reverse) W hW.t.bd hW.bs
        rw [hsr] at h
        exact h
      have hho : Pa.holds q BB X (Pa.body ls) ls.reverse = true := by
        have h := Pa.holds_self HRC.out (ls := ls.reverse) (fun l hl => HBS.out l (List.mem_reverse.1 hl))
        rw [hrb.1, hrb.2, hry.2, ← HF.out.2.2.1, ← HF.out.2.2.2.1] at h
        rw [show (fun j => (Pa.head ls.reverse).getD j 0) = q from funext fun j => by rw [hry.1, HF.out.2.1 j]] at h
        exact h
      have HHO : Hid (∀ W, Q3 w a len ls R q BB X ab nb cb (Pa.body ls) w5.heap.size qs Bs Xs sa ns cs (Pa.body ls.reverse) a' len ls.reverse W → Calls Try.prog 26 #[.agg #[.int .u8 (q 0), .int .u8 (q 1), .int .u8 (q 2), .int .u8 (q 3), .int .u8 (q 4), .int .u8 (q 5), .int .u8 (q 6), .int .u8 (q 7), .int .u16 BB, .int .u64 (Mk.H X), .int .u64 (Mk.L X), .slice ab nb cb], .slice a' len c'] W (ValB (.bool true) W)) := Lib.hid fun W hW => by
        have h := holds_any q BB X ab nb cb (Pa.body ls) a' len c' ls.reverse W hW.ps hlen (fun j => by rw [HF.out.2.1 j]; exact Pa.head_ok HBS.out j) hW.t.bd (by rw [HF.out.2.2.2.2]; have := body_le HBS.out; omega)
        rw [hho] at h
        exact h
      obtain ⟨c0, c1, c2, c3, c4, c5, c6, c7, c8, c9, c10, c11, c12, c13, c14, c15, c16, c17, c18, c19, c20, c21, c22, c23, _⟩ := HQ.out.all
      have HW6 := Lib.hid hw6
      clear hqs hBs hXs hns hbs hB5 h56 hs6 hr6 hrb hry hlq hBB hXX hsr hho hw6 HTr HPR HMK
      rw [← HW6.out] at c0 c1 c2 c3 c4 c5 c6 c7 c8 c9 c10 c11 c12 c13 c14 c15 c16 c17 c18 c19 c20 c21 c22 c23
      go_wp2_with fail
      rw [HW6.out]
      refine (HSR.out _ HQ.out).mono ?_
      rintro e w7 ⟨rfl, hB7⟩
      have HQ7 := Lib.hid (HQ.out.below hB7)
      clear c0 c1 c2 c3 c4 c5 c6 c7 c8 c9 c10 c11 c12 c13 c14 c15 c16 c17 c18 c19 c20 c21 c22 c23 hB7 HQ HW6
      obtain ⟨c0, c1, c2, c3, c4, c5, c6, c7, c8, c9, c10, c11, c12, c13, c14, c15, c16, c17, c18, c19, c20, c21, c22, c23, _⟩ := HQ7.out.all
      go_wp2_with fail
      refine (HHO.out _ HQ7.out).mono ?_
      rintro e w8 ⟨rfl, hB8⟩
      have HT8 := Lib.hid (HQ7.out.below hB8).t
      clear c0 c1 c2 c3 c4 c5 c6 c7 c8 c9 c10 c11 c12 c13 c14 c15 c16 c17 c18 c19 c20 c21 c22 c23 hB8 HQ7 HSR HHO
      have hm1 := mask1023p at'
      obtain ⟨t0, ht0⟩ : ∃ t : Nat, bits .and .i64 at' 1023 = t := ⟨(bits .and .i64 at' 1023).toNat, by omega⟩
      have hmod : (bits .and .i64 at' 1023).tmod (len : Int) = ((t0 % len : Nat) : Int) := by rw [ht0]; rfl
      have hlt0 : t0 % len < len := Nat.mod_lt _ hpos
      obtain ⟨k, hk⟩ : ∃ k, t0 % len = k := ⟨_, rfl⟩
      rw [hk] at hmod hlt0
      have hk1 : (0 : Int) ≤ (k : Int) := by omega
      have hk2 : (k : Int) ≤ (len : Int) := by omega
      have hcapz : (len : Int) ≤ (cap : Int) := by have := HCAP.out; omega
      have hk3 : (k : Int) ≤ (cap : Int) := by omega
      have hk4 : (k : Int) < (len : Int) := by omega
      obtain ⟨b, o, av, nv, cv, hrow⟩ := HT8.out.ps.row
      obtain ⟨rfl, _⟩ := hrow 0 hpos
      have HROW := Lib.hid hrow
      have i4 : (k : Int) ≤ (cap : Int) := by omega
      have i8 : IntKind.i64.wrap ((k : Int) + 1) = (k : Int) + 1 := IntWalk.i64_in _ (by omega)
      obtain ⟨aR, haR⟩ : ∃ aR : Option Addr, aR = if cap = k + 1 then some ⟨b, o, none⟩ else some ⟨b, o + (k + 1), none⟩ := ⟨_, rfl⟩
      obtain ⟨mR, hmR⟩ : ∃ mR, mR = len - (k + 1) := ⟨_, rfl⟩
      obtain ⟨cR, hcR⟩ : ∃ cR, cR = cap - (k + 1) := ⟨_, rfl⟩
      have hsl : ∀ w, (Instr.slice 22 (.slice (some ⟨b, o, none⟩) len cap) (some (.int .i64 ((k : Int) + 1))) none none).run Try.prog w = .ok (.slice aR mR cR) w := fun w => by
        rw [run_slice_l w 22 (some ⟨b, o, none⟩) len cap Try.underlying22 .i64 ((k : Int) + 1) (by omega) (by omega), show ((k : Int) + 1).toNat = k + 1 by omega, haR, hmR, hcR]
        simp only [sliced]
        split <;> simp [go_sem, Addr.add]
      have HAR := Lib.hid haR; have HMR := Lib.hid hmR; have HCR := Lib.hid hcR
      clear haR hmR hcR hrow hm1 ht0 hk
      have hW1 : Below w8.heap.size w8 ((w8.alloc (.cells #[] 26)).drew) := ((Below.refl _ w8).alloc (Nat.le_refl _) _).drew
      have hsrc : ∀ (W : World) (s m : Nat), Below w8.heap.size w8 W → s + m ≤ len → ∀ j u, (pcs (fun j => av (s + j)) (fun j => nv (s + j)) (fun j => cv (s + j)) m)[j]? = some u → W.cell? ((⟨b, o + s, none⟩ : Addr).add j) = some u := fun W s m hW hsm j u hu => by
        have hj : j < m := by have := (List.getElem?_eq_some_iff.1 hu).1; rwa [pcs_len] at this
        rw [pcs_at _ _ _ hj] at hu
        cases hu
        obtain ⟨_, h2, h3, _⟩ := HROW.out (s + j) (by omega)
        rw [show (Addr.add ⟨b, o + s, none⟩ j) = ⟨b, o + (s + j), none⟩ from by unfold Addr.add; split <;> simp_all <;> omega]
        exact (hW.cell (p := ⟨b, o + (s + j), none⟩) h2).trans h3
      obtain ⟨a12, c12, w12, hrun1, hO12, hg12, hl12⟩ := append_slices ((w8.alloc (.cells #[] 26)).drew) 22 w8.heap.size (some ⟨w8.heap.size, 0, none⟩) 0 0 [] ⟨rfl, .inr ⟨w8.heap.size, 0, #[], rfl, Nat.le_refl _, heap_alloc_new w8 _, Nat.le_refl _, Nat.zero_le _, rfl, rfl⟩⟩
        (some ⟨b, o, none⟩) k cap (pcs av nv cv k) (pcs_len _ _ _ _) (fun _ => ⟨_, rfl, by have := hsrc _ 0 k hW1 (by omega); simpa using this⟩) (by intro u hu; simp [pcs] at hu; obtain ⟨j, _, rfl⟩ := hu; rfl) (by omega) (by simp)
      rw [Nat.zero_add] at hrun1 hO12
      rw [List.nil_append] at hO12
      have hB12 : Below w8.heap.size w8 w12 := hW1.grown hg12 (by simp) (fun x e => by cases e; exact Nat.le_refl _)
      have hsrc2 : 0 < mR → ∃ x, aR = some x ∧ ∀ j u, (pcs (fun j => av (k + 1 + j)) (fun j => nv (k + 1 + j)) (fun j => cv (k + 1 + j)) mR)[j]? = some u → w12.cell? (x.add j) = some u := fun hm => by
        have h1 := HMR.out; have h2 := HAR.out
        rw [if_neg (by omega)] at h2
        exact ⟨_, h2, hsrc w12 (k + 1) mR hB12 (by omega)⟩
      obtain ⟨a13, c13, w13, hrun2, hO13, hg13, hl13⟩ := append_slices w12 22 w8.heap.size a12 k c12 _ hO12 aR mR cR (pcs (fun j => av (k + 1 + j)) (fun j => nv (k + 1 + j)) (fun j => cv (k + 1 + j)) mR) (pcs_len _ _ _ _) hsrc2 (by intro u hu; simp [pcs] at hu; obtain ⟨j, _, rfl⟩ := hu; rfl) (by have := HMR.out; omega) hB12.size
      have hn1 : k + mR = len - 1 := by have := HMR.out; omega
      rw [show mR = len - (k + 1) from HMR.out] at hO13
      rw [pcs_but av nv cv (by omega)] at hO13
      rw [← HMR.out, hn1] at hO13
      have hB13 : Below w8.heap.size w8 w13 := hB12.grown hg13 hB12.size (fun x e => by
        cases a12 with
        | none => cases e
        | some y => have := (hO12.lt y.block rfl).1; simp at e; omega)
      have hpb : PksAt w13 a13 (len - 1) (but ls k) := pks_row hO13 _ (by rw [but_len (by omega), hcount]) (fun j hj => by
        obtain ⟨_, _, _, r1, r2, r3⟩ := HROW.out (if j < k then j else j + 1) (by split <;> omega)
        exact ⟨by rw [but_at (by omega) (by omega)]; exact r1.below hB13, r2, r3⟩)
      rw [hn1] at hrun2
      have HRUN1 := Lib.hid hrun1; have HRUN2 := Lib.hid hrun2
      have HT13 := Lib.hid (HT8.out.below hB13); have HPB := Lib.hid hpb
      obtain ⟨_, hbb, hbc, hba, hbp, _⟩ := HROW.out k hlt0
      have HPK := Lib.hid (And.intro ((hB13.cell (p := ⟨b, o + k, none⟩) hbb).trans hbc) (And.intro (hba.below hB13) hbp))
      clear hrun1 hrun2 hO12 hO13 hg12 hg13 hl12 hl13 hB12 hsrc hsrc2 hW1 hpb hbb hbc hba hbp HT8
      go_wp2_with fail
      have htriv : True := trivial
      go_region_held3 (fun W => True) (exact trivial)
        (first
          | (refine step_append_run rfl (.tmp 77) (.tmp 80) 22 22 rfl (.slice (some ⟨w8.heap.size, 0, none⟩) 0 0) (.slice (some ⟨b, o, none⟩) k cap) (by rfl) (by rfl) _ _ HRUN1.out ?_)
          | (refine step_append_run rfl (.tmp 81) (.tmp 85) 22 22 rfl (.slice a12 k c12) (.slice aR mR cR) (by rfl) (by rfl) _ _ HRUN2.out ?_))
      generalize w5.heap.size = P at *
      have hgd := (Pa.good_iff HOK.out).1 HF.out.1
      have hcode := hgd.pk k (by omega)
      have hlm : ls.getD k [] ∈ ls := by rw [List.getD_eq_getElem?_getD, List.getElem?_eq_getElem (by omega)]; exact List.getElem_mem _
      have hbl := HBS.out _ hlm
      rw [HPK.out.2.1.len] at hcode
      have hbc := HPK.out.1
      have HOF := Lib.hid (of_any (av k) (nv k) (cv k) _ w13 HPK.out.2.1 HPK.out.2.2)
      have HCODE := Lib.hid hcode
      have HBL := Lib.hid hbl
      have hkz : (k : Int) < (len : Int) := by omega
      clear hgd hcode hlm hbl htriv
      go_wp2_with fail
      refine HOF.out.mono ?_
      rintro e w14 ⟨_, h4⟩
      obtain ⟨xa, xc, rfl, hO14, hB14⟩ := h4 HCODE.out
      unfold ibc
      obtain ⟨hx, hhx⟩ : ∃ hx : Nat → Int, ∀ j, (ihd (ls.getD k [])).getD j 0 = hx j := ⟨_, fun _ => rfl⟩
      rw [hhx 0, hhx 1, hhx 2, hhx 3, hhx 4, hhx 5, hhx 6, hhx 7]
      obtain ⟨nx, hnx⟩ : ∃ x, (ls.getD k []).length - 12 = x := ⟨_, rfl⟩
      rw [hnx] at hO14 ⊢
      have HHX := Lib.hid (And.intro hhx hnx)
      have HT14 := Lib.hid (HT13.out.below hB14)
      have HPB14 := Lib.hid (HPB.out.below hB14)
      obtain ⟨w15, hw15⟩ : ∃ u, w14.alloc (.cells #[.int .u8 (hx 0), .int .u8 (hx 1), .int .u8 (hx 2), .int .u8 (hx 3), .int .u8 (hx 4), .int .u8 (hx 5), .int .u8 (hx 6), .int .u8 (hx 7), .slice xa nx xc] 57) = u := ⟨_, rfl⟩
      have h1415 : Below w14.heap.size w14 w15 := by rw [← hw15]; exact (Below.refl _ w14).alloc (Nat.le_refl _) _
      have hx15 : w15.heap[w14.heap.size]? = some (.cells #[.int .u8 (hx 0), .int .u8 (hx 1), .int .u8 (hx 2), .int .u8 (hx 3), .int .u8 (hx 4), .int .u8 (hx 5), .int .u8 (hx 6), .int .u8 (hx 7), .slice xa nx xc] 57 (0, 0)) := by rw [← hw15]; exact lit_new rfl
      have HT15 := Lib.hid (HT14.out.below h1415); have HPB15 := Lib.hid (HPB14.out.below h1415); have HX15 := Lib.hid hx15
      have HO15 := Lib.hid (hO14.below h1415).bat
      clear h4 hO14 hB14 hhx hnx HOF HCODE h1415 hx15 HT13 HPB HPK HT14 HPB14 hbc
      have HQ5 := Lib.hid (show Q5 w (some ⟨b, o, none⟩) len ls R q BB X ab nb cb (Pa.body ls) w14.heap.size hx xa nx xc ((ls.getD k []).drop 12) a13 (len - 1) (but ls k) w15 from ⟨HT15.out, HX15.out, HO15.out, HPB15.out⟩)
      have hr64 : q 0 % 64 = q 0 := by rw [HF.out.2.1 0]; exact Pa.head64 HBS.out
      have htr : ∀ j, 0 ≤ q j ∧ q j < 256 := fun j => by rw [HF.out.2.1 j]; exact Pa.head_ok HBS.out j
      have hnbb : nb = (Pa.body ls).length := HF.out.2.2.2.2
      have hnr15 : nb ≤ 1500 := by rw [hnbb]; exact body_le HBS.out
      have HBr : Hid (∀ W, Q5 w (some ⟨b, o, none⟩) len ls R q BB X ab nb cb (Pa.body ls) w14.heap.size hx xa nx xc ((ls.getD k []).drop 12) a13 (len - 1) (but ls k) W → Calls Try.prog 30 #[.agg #[.int .u8 (q 0), .int .u8 (q 1), .int .u8 (q 2), .int .u8 (q 3), .int .u8 (q 4), .int .u8 (q 5), .int .u8 (q 6), .int .u8 (q 7), .int .u16 BB, .int .u64 (Mk.H X), .int .u64 (Mk.L X), .slice ab nb cb]] W (fun e w' => ∃ x cx, e = .returned (.agg #[.int .u8 (q 0), .int .u8 (q 1), .int .u8 (q 2), .int .u8 (q 3), .int .u8 (q 4), .int .u8 (q 5), .int .u8 (q 6), .int .u8 (q 7), .slice x nb cx]) ∧ BAt w' x nb (Pa.body ls) ∧ Below W.heap.size W w')) := Lib.hid fun W hW => by
        have h := pbytes_any q BB X ab nb cb (Pa.body ls) W (htr 0) hW.t.bd (by omega)
        unfold rpc BytesOut at h
        rw [hr64, ← hnbb] at h
        exact h.mono fun e w' ⟨x, cx, h1, h2, h3⟩ => ⟨x, cx, h1, h2.bat, h3⟩
      have hxl : nx = ((ls.getD k []).drop 12).length := by rw [List.length_drop]; exact HHX.out.2.symm
      by_cases h1 : len = 1
      · have h10 : ¬ (0 : Int) < ((len - 1 : Nat) : Int) := by omega
        have h10' : ¬ 0 < len - 1 := by omega
        obtain ⟨hqx, hbx, hnxb⟩ := one_eq (by rw [hcount]; exact h1) HBS.out (by omega : k = 0) HF.out.2.1 HHX.out.1
        have hbool : (decide ([hx 0, hx 1, hx 2, hx 3, hx 4, hx 5, hx 6, hx 7] = [q 0, q 1, q 2, q 3, q 4, q 5, q 6, q 7]) && decide (Str.gap ((ls.getD k []).drop 12) (Pa.body ls) < 0)) = true := by
          rw [hqx, hbx, decide_eq_true rfl, decide_eq_true (gap_self _)]; rfl
        have HSM : Hid (∀ W x cx, Q5 w (some ⟨b, o, none⟩) len ls R q BB X ab nb cb (Pa.body ls) w14.heap.size hx xa nx xc ((ls.getD k []).drop 12) a13 (len - 1) (but ls k) W → BAt W x nb (Pa.body ls) → Calls Try.prog 28 #[.agg #[.int .u8 (hx 0), .int .u8 (hx 1), .int .u8 (hx 2), .int .u8 (hx 3), .int .u8 (hx 4), .int .u8 (hx 5), .int .u8 (hx 6), .int .u8 (hx 7), .slice xa nx xc], .agg #[.int .u8 (q 0), .int .u8 (q 1), .int .u8 (q 2), .int .u8 (q 3), .int .u8 (q 4), .int .u8 (q 5), .int .u8 (q 6), .int .u8 (q 7), .slice x nb cx]] W (ValB (.bool true) W)) := Lib.hid fun W x cx hW hy => by
          have h := isame_any (hx 0) (hx 1) (hx 2) (hx 3) (hx 4) (hx 5) (hx 6) (hx 7) (q 0) (q 1) (q 2) (q 3) (q 4) (q 5) (q 6) (q 7) xa x nx nb xc cx _ _ W hW.bx hy
          rw [hbool] at h
          exact h
        have hS := HQ5.out.all
        have HW15 := Lib.hid hw15
        clear hw15 hr64 htr hnbb hnr15 hxl hqx hbx hnxb hbool
        have H1 := Lib.hid h1
        clear h1
        go_upto_region 24 with (fail)
        rw [HW15.out]
        clear HW15
        go_region_held3 (fun W => W.cell? ⟨R, 0, none⟩ = some (.int .u8 (q 0)) ∧ W.cell? ⟨R, 1, none⟩ = some (.int .u8 (q 1)) ∧ W.cell? ⟨R, 2, none⟩ = some (.int .u8 (q 2)) ∧ W.cell? ⟨R, 3, none⟩ = some (.int .u8 (q 3)) ∧ W.cell? ⟨R, 4, none⟩ = some (.int .u8 (q 4)) ∧ W.cell? ⟨R, 5, none⟩ = some (.int .u8 (q 5)) ∧ W.cell? ⟨R, 6, none⟩ = some (.int .u8 (q 6)) ∧ W.cell? ⟨R, 7, none⟩ = some (.int .u8 (q 7)) ∧ W.cell? ⟨R, 8, none⟩ = some (.int .u16 BB) ∧ W.cell? ⟨R, 9, none⟩ = some (.int .u64 (Mk.H X)) ∧ W.cell? ⟨R, 10, none⟩ = some (.int .u64 (Mk.L X)) ∧ W.cell? ⟨R, 11, none⟩ = some (.slice ab nb cb) ∧ W.cell? ⟨w14.heap.size, 0, none⟩ = some (.int .u8 (hx 0)) ∧ W.cell? ⟨w14.heap.size, 1, none⟩ = some (.int .u8 (hx 1)) ∧ W.cell? ⟨w14.heap.size, 2, none⟩ = some (.int .u8 (hx 2)) ∧ W.cell? ⟨w14.heap.size, 3, none⟩ = some (.int .u8 (hx 3)) ∧ W.cell? ⟨w14.heap.size, 4, none⟩ = some (.int .u8 (hx 4)) ∧ W.cell? ⟨w14.heap.size, 5, none⟩ = some (.int .u8 (hx 5)) ∧ W.cell? ⟨w14.heap.size, 6, none⟩ = some (.int .u8 (hx 6)) ∧ W.cell? ⟨w14.heap.size, 7, none⟩ = some (.int .u8 (hx 7)) ∧ W.cell? ⟨w14.heap.size, 8, none⟩ = some (.slice xa nx xc) ∧ Q5 w (some ⟨b, o, none⟩) len ls R q BB X ab nb cb (Pa.body ls) w14.heap.size hx xa nx xc ((ls.getD k []).drop 12) a13 (len - 1) (but ls k) W)
          (first | with_reducible assumption | with_reducible exact Q5.drews (by with_reducible assumption) | with_reducible exact Q5.belows (by with_reducible assumption) (by with_reducible assumption))
          (first
            | (go_at_call 30; refine (HBr.out _ (Q5.of (by assumption))).mono ?_; rintro e wD ⟨xD, cD, rfl, hbD, hBD⟩; have HbD := Lib.hid hbD; clear hbD)
            | (go_at_call 28; refine (HSM.out _ _ _ (Q5.of (by assumption)) HbD.out).mono ?_; rintro e wE ⟨rfl, hBE⟩))
        have HQE := Lib.hid (Q5.of (by assumption) : Q5 w (some ⟨b, o, none⟩) len ls R q BB X ab nb cb (Pa.body ls) w14.heap.size hx xa nx xc ((ls.getD k []).drop 12) a13 (len - 1) (but ls k) wE)
        have HQE := Lib.hid HQE.out.t
        clear HQ5 HBr HSM HbD
        have HTZ := HQE
        clear HQE
        have c0 : wE.cell? ⟨R, 0, none⟩ = some (.int .u8 (q 0)) := by rw [cell_of_row wE _ 0 _ _ _ HTZ.out.rb]; rfl
        have c1 : wE.cell? ⟨R, 1, none⟩ = some (.int .u8 (q 1)) := by rw [cell_of_row wE _ 1 _ _ _ HTZ.out.rb]; rfl
        have c2 : wE.cell? ⟨R, 2, none⟩ = some (.int .u8 (q 2)) := by rw [cell_of_row wE _ 2 _ _ _ HTZ.out.rb]; rfl
        have c3 : wE.cell? ⟨R, 3, none⟩ = some (.int .u8 (q 3)) := by rw [cell_of_row wE _ 3 _ _ _ HTZ.out.rb]; rfl
        have c4 : wE.cell? ⟨R, 4, none⟩ = some (.int .u8 (q 4)) := by rw [cell_of_row wE _ 4 _ _ _ HTZ.out.rb]; rfl
        have c5 : wE.cell? ⟨R, 5, none⟩ = some (.int .u8 (q 5)) := by rw [cell_of_row wE _ 5 _ _ _ HTZ.out.rb]; rfl
        have c6 : wE.cell? ⟨R, 6, none⟩ = some (.int .u8 (q 6)) := by rw [cell_of_row wE _ 6 _ _ _ HTZ.out.rb]; rfl
        have c7 : wE.cell? ⟨R, 7, none⟩ = some (.int .u8 (q 7)) := by rw [cell_of_row wE _ 7 _ _ _ HTZ.out.rb]; rfl
        have c8 : wE.cell? ⟨R, 8, none⟩ = some (.int .u16 BB) := by rw [cell_of_row wE _ 8 _ _ _ HTZ.out.rb]; rfl
        have c9 : wE.cell? ⟨R, 9, none⟩ = some (.int .u64 (Mk.H X)) := by rw [cell_of_row wE _ 9 _ _ _ HTZ.out.rb]; rfl
        have c10 : wE.cell? ⟨R, 10, none⟩ = some (.int .u64 (Mk.L X)) := by rw [cell_of_row wE _ 10 _ _ _ HTZ.out.rb]; rfl
        have c11 : wE.cell? ⟨R, 11, none⟩ = some (.slice ab nb cb) := by rw [cell_of_row wE _ 11 _ _ _ HTZ.out.rb]; rfl
        obtain ⟨wT, hwT⟩ : ∃ u, wE.alloc (.cells #[.int .u8 (q 0), .int .u8 (q 1), .int .u8 (q 2), .int .u8 (q 3), .int .u8 (q 4), .int .u8 (q 5), .int .u8 (q 6), .int .u8 (q 7), .int .u16 BB, .int .u64 (Mk.H X), .int .u64 (Mk.L X), .slice ab nb cb] 32) = u := ⟨_, rfl⟩
        have hET : Below wE.heap.size wE wT := by rw [← hwT]; exact (Below.refl _ wE).alloc (Nat.le_refl _) _
        have htT : wT.heap[wE.heap.size]? = some (.cells #[.int .u8 (q 0), .int .u8 (q 1), .int .u8 (q 2), .int .u8 (q 3), .int .u8 (q 4), .int .u8 (q 5), .int .u8 (q 6), .int .u8 (q 7), .int .u16 BB, .int .u64 (Mk.H X), .int .u64 (Mk.L X), .slice ab nb cb] 32 (0, 0)) := by rw [← hwT]; exact lit_new rfl
        have HTT := Lib.hid (HTZ.out.below hET)
        have HTB := Lib.hid htT
        have HET := Lib.hid hET
        have d11 : wT.cell? ⟨R, 11, none⟩ = some (.slice ab nb cb) := by rw [cell_of_row wT _ 11 _ _ _ HTT.out.rb]; rfl
        have HWT := Lib.hid hwT
        rw [← HWT.out] at d11
        clear hwT hET htT
        go_wp2_with fail
        rw [HWT.out]
        clear c0 c1 c2 c3 c4 c5 c6 c7 c8 c9 c10 c11 d11
        have hnbT : nb = (Pa.body ls).length := HF.out.2.2.2.2
        have hnbT15 : nb ≤ 1500 := by rw [hnbT]; exact body_le HBS.out
        have htrT : ∀ j, 0 ≤ q j ∧ q j < 256 := fun j => by rw [HF.out.2.1 j]; exact Pa.head_ok HBS.out j
        have HTR := Lib.hid htrT
        refine (copy_any ab nb cb _ wT HTT.out.bd (by omega)).mono ?_
        rintro e w16 ⟨a16, c16, rfl, hO16, hB16⟩
        have htb := (hB16.block _ (Array.getElem?_eq_some_iff.1 HTB.out).1).trans HTB.out
        have hszT : wT.heap.size = wE.heap.size + 1 := by rw [← HWT.out]; simp
        have hE16 := bcomp HET.out hB16
        obtain ⟨x0, hx0⟩ : ∃ x, bits .xor .u8 (q 0) 192 = x := ⟨_, rfl⟩
        have hxx := xor192 (q 0) (htrT 0)
        rw [hx0] at hxx
        have HXX := Lib.hid hxx; have HTB16 := Lib.hid htb; have HE16 := Lib.hid hE16; have HO16 := Lib.hid hO16; have HSZ := Lib.hid hszT
        clear hnbT htrT hO16 hB16 htb hszT hE16 hxx
        have t0 : w16.cell? ⟨wE.heap.size, 0, none⟩ = some (.int .u8 (q 0)) := by rw [cell_of_row w16 _ 0 _ _ _ HTB16.out]; rfl
        have t1 : w16.cell? ⟨wE.heap.size, 1, none⟩ = some (.int .u8 (q 1)) := by rw [cell_of_row w16 _ 1 _ _ _ HTB16.out]; rfl
        have t2 : w16.cell? ⟨wE.heap.size, 2, none⟩ = some (.int .u8 (q 2)) := by rw [cell_of_row w16 _ 2 _ _ _ HTB16.out]; rfl
        have t3 : w16.cell? ⟨wE.heap.size, 3, none⟩ = some (.int .u8 (q 3)) := by rw [cell_of_row w16 _ 3 _ _ _ HTB16.out]; rfl
        have t4 : w16.cell? ⟨wE.heap.size, 4, none⟩ = some (.int .u8 (q 4)) := by rw [cell_of_row w16 _ 4 _ _ _ HTB16.out]; rfl
        have t5 : w16.cell? ⟨wE.heap.size, 5, none⟩ = some (.int .u8 (q 5)) := by rw [cell_of_row w16 _ 5 _ _ _ HTB16.out]; rfl
        have t6 : w16.cell? ⟨wE.heap.size, 6, none⟩ = some (.int .u8 (q 6)) := by rw [cell_of_row w16 _ 6 _ _ _ HTB16.out]; rfl
        have t7 : w16.cell? ⟨wE.heap.size, 7, none⟩ = some (.int .u8 (q 7)) := by rw [cell_of_row w16 _ 7 _ _ _ HTB16.out]; rfl
        have t8 : w16.cell? ⟨wE.heap.size, 8, none⟩ = some (.int .u16 BB) := by rw [cell_of_row w16 _ 8 _ _ _ HTB16.out]; rfl
        have t9 : w16.cell? ⟨wE.heap.size, 9, none⟩ = some (.int .u64 (Mk.H X)) := by rw [cell_of_row w16 _ 9 _ _ _ HTB16.out]; rfl
        have t10 : w16.cell? ⟨wE.heap.size, 10, none⟩ = some (.int .u64 (Mk.L X)) := by rw [cell_of_row w16 _ 10 _ _ _ HTB16.out]; rfl
        have t11 : w16.cell? ⟨wE.heap.size, 11, none⟩ = some (.slice ab nb cb) := by rw [cell_of_row w16 _ 11 _ _ _ HTB16.out]; rfl
        have tf : ∀ o, w16.frozen? ⟨wE.heap.size, o, none⟩ = false := fun o => frozen_of_row w16 _ o _ _ HTB16.out
        go_wp2_with fail
        obtain ⟨w18, hw18⟩ : ∃ u, (w16.setCell ⟨wE.heap.size, 11, none⟩ (.slice a16 nb c16)).setCell ⟨wE.heap.size, 0, none⟩ (.int .u8 x0) = u := ⟨_, rfl⟩
        have hE18 : Below wE.heap.size wE w18 := by rw [← hw18]; exact (HE16.out.setCell (Nat.le_refl _) _).setCell (Nat.le_refl _) _
        have hO18 : Own w18 wT.heap.size a16 nb c16 (Pa.body ls) := by rw [← hw18]; exact (HO16.out.off (set_grown _ _ _ _) (by have := HSZ.out; omega)).off (set_grown _ _ _ _) (by have := HSZ.out; omega)
        have htb18 : w18.heap[wE.heap.size]? = some (.cells #[.int .u8 x0, .int .u8 (q 1), .int .u8 (q 2), .int .u8 (q 3), .int .u8 (q 4), .int .u8 (q 5), .int .u8 (q 6), .int .u8 (q 7), .int .u16 BB, .int .u64 (Mk.H X), .int .u64 (Mk.L X), .slice a16 nb c16] 32 (0, 0)) := by rw [← hw18]; exact heap_setCell_same _ _ 0 _ _ _ (heap_setCell_same w16 _ 11 _ _ _ HTB16.out)
        have HT18 := Lib.hid (HTZ.out.below hE18)
        have HE18 := Lib.hid hE18; have HO18 := Lib.hid hO18; have HTB18 := Lib.hid htb18
        rw [hw18]
        clear hw18 hE18 hO18 htb18 t0 t1 t2 t3 t4 t5 t6 t7 t8 t9 t10 t11 tf
        refine (holds_list x0 (q 1) (q 2) (q 3) (q 4) (q 5) (q 6) (q 7) HXX.out.1 (HTR.out 1) (HTR.out 2) (HTR.out 3) (HTR.out 4) (HTR.out 5) (HTR.out 6) (HTR.out 7) BB X a16 nb c16 (Pa.body ls) (some ⟨b, o, none⟩) len cap ls w18 HT18.out.ps (by omega) HO18.out.bat (by omega) true (holds_same HF.out.1 HBS.out HF.out.2.1 HXX.out.2 HF.out.2.2.1 HF.out.2.2.2.1)).mono ?_
        rintro e w19 ⟨rfl, hB19⟩
        have HE19 := Lib.hid (HE18.out.trans (hB19.mono HE18.out.size))
        have HTB19 := Lib.hid ((hB19.block _ (Array.getElem?_eq_some_iff.1 HTB18.out).1).trans HTB18.out)
        have HO19 := Lib.hid (HO18.out.below hB19)
        clear hB19 HE18 HTB18 HO18 HT18 HE16 HO16 HTB16
        have t0 : w19.cell? ⟨wE.heap.size, 0, none⟩ = some (.int .u8 x0) := by rw [cell_of_row w19 _ 0 _ _ _ HTB19.out]; rfl
        have t1 : w19.cell? ⟨wE.heap.size, 1, none⟩ = some (.int .u8 (q 1)) := by rw [cell_of_row w19 _ 1 _ _ _ HTB19.out]; rfl
        have t2 : w19.cell? ⟨wE.heap.size, 2, none⟩ = some (.int .u8 (q 2)) := by rw [cell_of_row w19 _ 2 _ _ _ HTB19.out]; rfl
        have t3 : w19.cell? ⟨wE.heap.size, 3, none⟩ = some (.int .u8 (q 3)) := by rw [cell_of_row w19 _ 3 _ _ _ HTB19.out]; rfl
        have t4 : w19.cell? ⟨wE.heap.size, 4, none⟩ = some (.int .u8 (q 4)) := by rw [cell_of_row w19 _ 4 _ _ _ HTB19.out]; rfl
        have t5 : w19.cell? ⟨wE.heap.size, 5, none⟩ = some (.int .u8 (q 5)) := by rw [cell_of_row w19 _ 5 _ _ _ HTB19.out]; rfl
        have t6 : w19.cell? ⟨wE.heap.size, 6, none⟩ = some (.int .u8 (q 6)) := by rw [cell_of_row w19 _ 6 _ _ _ HTB19.out]; rfl
        have t7 : w19.cell? ⟨wE.heap.size, 7, none⟩ = some (.int .u8 (q 7)) := by rw [cell_of_row w19 _ 7 _ _ _ HTB19.out]; rfl
        have t8 : w19.cell? ⟨wE.heap.size, 8, none⟩ = some (.int .u16 BB) := by rw [cell_of_row w19 _ 8 _ _ _ HTB19.out]; rfl
        have t9 : w19.cell? ⟨wE.heap.size, 9, none⟩ = some (.int .u64 (Mk.H X)) := by rw [cell_of_row w19 _ 9 _ _ _ HTB19.out]; rfl
        have t10 : w19.cell? ⟨wE.heap.size, 10, none⟩ = some (.int .u64 (Mk.L X)) := by rw [cell_of_row w19 _ 10 _ _ _ HTB19.out]; rfl
        have t11 : w19.cell? ⟨wE.heap.size, 11, none⟩ = some (.slice a16 nb c16) := by rw [cell_of_row w19 _ 11 _ _ _ HTB19.out]; rfl
        have tf : ∀ o, w19.frozen? ⟨wE.heap.size, o, none⟩ = false := fun o => frozen_of_row w19 _ o _ _ HTB19.out
        rcases mask3 bit with hv | hv | hv | hv
        · obtain ⟨y0, hy0⟩ : ∃ x, bits .xor .u8 (q 1) 1 = x := ⟨_, rfl⟩
          have hyy := xor1 (q 1) (HTR.out 1)
          rw [hy0] at hyy
          have HY0 := Lib.hid hyy
          clear hyy
          go_wp2_with fail
          obtain ⟨w20, hw20⟩ : ∃ u, w19.setCell ⟨wE.heap.size, 1, none⟩ (.int .u8 y0) = u := ⟨_, rfl⟩
          have hE20 : Below wE.heap.size wE w20 := by rw [← hw20]; exact HE19.out.setCell (Nat.le_refl _) _
          have hO20 : Own w20 wT.heap.size a16 nb c16 (Pa.body ls) := by rw [← hw20]; exact HO19.out.off (set_grown _ _ _ _) (by have := HSZ.out; omega)
          have HT20 := Lib.hid (HTZ.out.below hE20); have HO20 := Lib.hid hO20
          rw [hw20]
          clear hw20 hE20 hO20
          refine (holds_list x0 y0 (q 2) (q 3) (q 4) (q 5) (q 6) (q 7) HXX.out.1 HY0.out.1 (HTR.out 2) (HTR.out 3) (HTR.out 4) (HTR.out 5) (HTR.out 6) (HTR.out 7) BB X a16 nb c16 (Pa.body ls) (some ⟨b, o, none⟩) len cap ls w20 HT20.out.ps (by omega) HO20.out.bat (by omega) false (holds_flip HF.out.2.1 x0 y0 (q 2) (q 3) (q 4) (q 5) (q 6) (q 7) (.inl HY0.out.2) BB X (Pa.body ls))).mono ?_
          rintro e w21 ⟨rfl, hB21⟩
          have HL := Lib.hid (HT20.out.below hB21).low
          clear hB21
          go_wp2
          go_ret
          exact ⟨rfl, HL.out⟩
        · obtain ⟨y0, hy0⟩ : ∃ x, bits .xor .u8 (q 2) 1 = x := ⟨_, rfl⟩
          have hyy := xor1 (q 2) (HTR.out 2)
          rw [hy0] at hyy
          have HY0 := Lib.hid hyy
          clear hyy
          go_wp2_with fail
          obtain ⟨w20, hw20⟩ : ∃ u, w19.setCell ⟨wE.heap.size, 2, none⟩ (.int .u8 y0) = u := ⟨_, rfl⟩
          have hE20 : Below wE.heap.size wE w20 := by rw [← hw20]; exact HE19.out.setCell (Nat.le_refl _) _
          have hO20 : Own w20 wT.heap.size a16 nb c16 (Pa.body ls) := by rw [← hw20]; exact HO19.out.off (set_grown _ _ _ _) (by have := HSZ.out; omega)
          have HT20 := Lib.hid (HTZ.out.below hE20); have HO20 := Lib.hid hO20
          rw [hw20]
          clear hw20 hE20 hO20
          refine (holds_list x0 (q 1) y0 (q 3) (q 4) (q 5) (q 6) (q 7) HXX.out.1 (HTR.out 1) HY0.out.1 (HTR.out 3) (HTR.out 4) (HTR.out 5) (HTR.out 6) (HTR.out 7) BB X a16 nb c16 (Pa.body ls) (some ⟨b, o, none⟩) len cap ls w20 HT20.out.ps (by omega) HO20.out.bat (by omega) false (holds_flip HF.out.2.1 x0 (q 1) y0 (q 3) (q 4) (q 5) (q 6) (q 7) (.inr (.inl HY0.out.2)) BB X (Pa.body ls))).mono ?_
          rintro e w21 ⟨rfl, hB21⟩
          have HL := Lib.hid (HT20.out.below hB21).low
          clear hB21
          go_wp2
          go_ret
          exact ⟨rfl, HL.out⟩
        · obtain ⟨y0, hy0⟩ : ∃ x, bits .xor .u8 (q 3) 1 = x := ⟨_, rfl⟩
          have hyy := xor1 (q 3) (HTR.out 3)
          rw [hy0] at hyy
          have HY0 := Lib.hid hyy
          clear hyy
          go_wp2_with fail
          obtain ⟨w20, hw20⟩ : ∃ u, w19.setCell ⟨wE.heap.size, 3, none⟩ (.int .u8 y0) = u := ⟨_, rfl⟩
          have hE20 : Below wE.heap.size wE w20 := by rw [← hw20]; exact HE19.out.setCell (Nat.le_refl _) _
          have hO20 : Own w20 wT.heap.size a16 nb c16 (Pa.body ls) := by rw [← hw20]; exact HO19.out.off (set_grown _ _ _ _) (by have := HSZ.out; omega)
          have HT20 := Lib.hid (HTZ.out.below hE20); have HO20 := Lib.hid hO20
          rw [hw20]
          clear hw20 hE20 hO20
          refine (holds_list x0 (q 1) (q 2) y0 (q 4) (q 5) (q 6) (q 7) HXX.out.1 (HTR.out 1) (HTR.out 2) HY0.out.1 (HTR.out 4) (HTR.out 5) (HTR.out 6) (HTR.out 7) BB X a16 nb c16 (Pa.body ls) (some ⟨b, o, none⟩) len cap ls w20 HT20.out.ps (by omega) HO20.out.bat (by omega) false (holds_flip HF.out.2.1 x0 (q 1) (q 2) y0 (q 4) (q 5) (q 6) (q 7) (.inr (.inr (.inl HY0.out.2))) BB X (Pa.body ls))).mono ?_
          rintro e w21 ⟨rfl, hB21⟩
          have HL := Lib.hid (HT20.out.below hB21).low
          clear hB21
          go_wp2
          go_ret
          exact ⟨rfl, HL.out⟩
        · obtain ⟨y0, hy0⟩ : ∃ x, bits .xor .u8 (q 4) 1 = x := ⟨_, rfl⟩
          have hyy := xor1 (q 4) (HTR.out 4)
          rw [hy0] at hyy
          have HY0 := Lib.hid hyy
          clear hyy
          go_wp2_with fail
          obtain ⟨w20, hw20⟩ : ∃ u, w19.setCell ⟨wE.heap.size, 4, none⟩ (.int .u8 y0) = u := ⟨_, rfl⟩
          have hE20 : Below wE.heap.size wE w20 := by rw [← hw20]; exact HE19.out.setCell (Nat.le_refl _) _
          have hO20 : Own w20 wT.heap.size a16 nb c16 (Pa.body ls) := by rw [← hw20]; exact HO19.out.off (set_grown _ _ _ _) (by have := HSZ.out; omega)
          have HT20 := Lib.hid (HTZ.out.below hE20); have HO20 := Lib.hid hO20
          rw [hw20]
          clear hw20 hE20 hO20
          refine (holds_list x0 (q 1) (q 2) (q 3) y0 (q 5) (q 6) (q 7) HXX.out.1 (HTR.out 1) (HTR.out 2) (HTR.out 3) HY0.out.1 (HTR.out 5) (HTR.out 6) (HTR.out 7) BB X a16 nb c16 (Pa.body ls) (some ⟨b, o, none⟩) len cap ls w20 HT20.out.ps (by omega) HO20.out.bat (by omega) false (holds_flip HF.out.2.1 x0 (q 1) (q 2) (q 3) y0 (q 5) (q 6) (q 7) (.inr (.inr (.inr HY0.out.2))) BB X (Pa.body ls))).mono ?_
          rintro e w21 ⟨rfl, hB21⟩
          have HL := Lib.hid (HT20.out.below hB21).low
          clear hB21
          go_wp2
          go_ret
          exact ⟨rfl, HL.out⟩
      · have h10 : (0 : Int) < ((len - 1 : Nat) : Int) := by omega
        have h10' : 0 < len - 1 := by omega
        have hbc := but_code HOK.out HF.out.1 (k := k) (by omega) (by omega)
        have HMK2 := Lib.hid (make_good2 a13 (len - 1) c13 (but ls k) w15 HPB15.out (by omega) hbc.1)
        have HBC := Lib.hid hbc.1
        have HKEEP := Lib.hid (And.intro hxl (And.intro hnbb (And.intro hnr15 (And.intro hr64 htr))))
        have HW15 := Lib.hid hw15
        clear hbc hxl hnbb hnr15 hr64 htr hw15
        go_wp2_with fail
        rw [HW15.out]
        obtain ⟨hxl, hnbb, hnr15, hr64, htr⟩ := HKEEP.out
        refine HMK2.out.mono ?_
        rintro e w16 ⟨qo, Bo, Xo, oa, no, co, rfl, hqo, hBo, hXo, hno, hbo, hB16⟩
        obtain ⟨w17, hw17⟩ : ∃ u, w16.alloc (.cells #[.int .u8 (qo 0), .int .u8 (qo 1), .int .u8 (qo 2), .int .u8 (qo 3), .int .u8 (qo 4), .int .u8 (qo 5), .int .u8 (qo 6), .int .u8 (qo 7), .int .u16 Bo, .int .u64 (Mk.H Xo), .int .u64 (Mk.L Xo), .slice oa no co] 32) = u := ⟨_, rfl⟩
        have h1617 : Below w16.heap.size w16 w17 := by rw [← hw17]; exact (Below.refl _ w16).alloc (Nat.le_refl _) _
        have ho17 : w17.heap[w16.heap.size]? = some (.cells #[.int .u8 (qo 0), .int .u8 (qo 1), .int .u8 (qo 2), .int .u8 (qo 3), .int .u8 (qo 4), .int .u8 (qo 5), .int .u8 (qo 6), .int .u8 (qo 7), .int .u16 Bo, .int .u64 (Mk.H Xo), .int .u64 (Mk.L Xo), .slice oa no co] 32 (0, 0)) := by rw [← hw17]; exact lit_new rfl
        have HQ6 := Lib.hid (show Q6 w (some ⟨b, o, none⟩) len ls R q BB X ab nb cb (Pa.body ls) w14.heap.size hx xa nx xc ((ls.getD k []).drop 12) a13 (len - 1) (but ls k) w16.heap.size qo Bo Xo oa no co (Pa.body (but ls k)) w17 from ⟨HQ5.out.below (bcomp hB16 h1617), ho17, hbo.below h1617⟩)
        have hbB : PkB (but ls k) := fun l hl => by
          rcases List.mem_append.1 hl with e | e
          · exact HBS.out.take k l e
          · exact HBS.out.drop (k + 1) l e
        have ho64 : qo 0 % 64 = qo 0 := by rw [hqo 0]; exact Pa.head64 hbB
        have hto : ∀ j, 0 ≤ qo j ∧ qo j < 256 := fun j => by rw [hqo j]; exact Pa.head_ok hbB j
        have hno15 : no ≤ 1500 := by rw [hno]; exact body_le hbB
        have htx : ∀ j, 0 ≤ hx j ∧ hx j < 256 := fun j => by rw [← HHX.out.1 j]; exact ihd_Ok HBL.out j
        have hnx15 : nx ≤ 1500 := by rw [hxl, List.length_drop]; have := HBL.out.2; omega
        have hsp := but_bytes HBS.out (k := k) (by omega)
        have hHo : Hid (∀ W, Q6 w (some ⟨b, o, none⟩) len ls R q BB X ab nb cb (Pa.body ls) w14.heap.size hx xa nx xc ((ls.getD k []).drop 12) a13 (len - 1) (but ls k) w16.heap.size qo Bo Xo oa no co (Pa.body (but ls k)) W → Calls Try.prog 30 #[.agg #[.int .u8 (qo 0), .int .u8 (qo 1), .int .u8 (qo 2), .int .u8 (qo 3), .int .u8 (qo 4), .int .u8 (qo 5), .int .u8 (qo 6), .int .u8 (qo 7), .int .u16 Bo, .int .u64 (Mk.H Xo), .int .u64 (Mk.L Xo), .slice oa no co]] W (fun e w' => ∃ x cx, e = .returned (.agg #[.int .u8 (qo 0), .int .u8 (qo 1), .int .u8 (qo 2), .int .u8 (qo 3), .int .u8 (qo 4), .int .u8 (qo 5), .int .u8 (qo 6), .int .u8 (qo 7), .slice x no cx]) ∧ BAt w' x no (Pa.body (but ls k)) ∧ Below W.heap.size W w')) := Lib.hid fun W hW => by
          have h := pbytes_any qo Bo Xo oa no co (Pa.body (but ls k)) W (hto 0) hW.bo (by omega)
          unfold rpc BytesOut at h
          rw [ho64, ← hno] at h
          exact h.mono fun e w' ⟨x, cx, h1, h2, h3⟩ => ⟨x, cx, h1, h2.bat, h3⟩
        have hne1 : but ls k ≠ [] := fun e => by have h := congrArg List.length e; rw [but_len (by omega), List.length_nil, hcount] at h; omega
        have hlo : [qo 0, qo 1, qo 2, qo 3, qo 4, qo 5, qo 6, qo 7] = Pa.head (but ls k) := eight (Pa.head_len hne1) hqo
        have hlx : [hx 0, hx 1, hx 2, hx 3, hx 4, hx 5, hx 6, hx 7] = ihd (ls.getD k []) := eight (ihd_len _) (fun j => (HHX.out.1 j).symm)
        have HAD : Hid (∀ W x cx, Q6 w (some ⟨b, o, none⟩) len ls R q BB X ab nb cb (Pa.body ls) w14.heap.size hx xa nx xc ((ls.getD k []).drop 12) a13 (len - 1) (but ls k) w16.heap.size qo Bo Xo oa no co (Pa.body (but ls k)) W → BAt W x no (Pa.body (but ls k)) → Calls Try.prog 29 #[.agg #[.int .u8 (qo 0), .int .u8 (qo 1), .int .u8 (qo 2), .int .u8 (qo 3), .int .u8 (qo 4), .int .u8 (qo 5), .int .u8 (qo 6), .int .u8 (qo 7), .slice x no cx], .agg #[.int .u8 (hx 0), .int .u8 (hx 1), .int .u8 (hx 2), .int .u8 (hx 3), .int .u8 (hx 4), .int .u8 (hx 5), .int .u8 (hx 6), .int .u8 (hx 7), .slice xa nx xc]] W (fun e w' => ∃ z cz, e = .returned (.agg #[.int .u8 (q 0), .int .u8 (q 1), .int .u8 (q 2), .int .u8 (q 3), .int .u8 (q 4), .int .u8 (q 5), .int .u8 (q 6), .int .u8 (q 7), .slice z nb cz]) ∧ BAt w' z nb (Pa.body ls) ∧ Below W.heap.size W w')) := Lib.hid fun W x cx hW hy => by
          have h := iadd_any qo hx x xa no nx cx xc _ _ W hy hW.f.bx hto htx (by omega) (by omega)
          refine h.mono ?_
          rintro e w' ⟨z, cz, he, ho, hb⟩
          have e1 : Str.all [] [[qo 0, qo 1, qo 2, qo 3, qo 4, qo 5, qo 6, qo 7], [hx 0, hx 1, hx 2, hx 3, hx 4, hx 5, hx 6, hx 7]] = Pa.head ls := by
            rw [hlo, hlx, hsp.1]
            show Str.xor (Str.xor [] (Pa.head (but ls k))) (ihd (ls.getD k [])) = _
            rw [Str.nil_xor (Pa.head_ok hbB)]
          have e2 : Str.all [] [Pa.body (but ls k), (ls.getD k []).drop 12] = Pa.body ls := by
            rw [hsp.2]
            show Str.xor (Str.xor [] (Pa.body (but ls k))) ((ls.getD k []).drop 12) = _
            rw [Str.nil_xor (Pa.body_ok hbB)]
          rw [e2, ← hnbb] at ho
          rw [e1, e2, ← hnbb] at he
          simp only [← HF.out.2.1] at he
          exact ⟨z, cz, he, ho.bat, hb⟩
        have HSM : Hid (∀ W x cx y cy, BAt W x nb (Pa.body ls) → BAt W y nb (Pa.body ls) → Calls Try.prog 28 #[.agg #[.int .u8 (q 0), .int .u8 (q 1), .int .u8 (q 2), .int .u8 (q 3), .int .u8 (q 4), .int .u8 (q 5), .int .u8 (q 6), .int .u8 (q 7), .slice x nb cx], .agg #[.int .u8 (q 0), .int .u8 (q 1), .int .u8 (q 2), .int .u8 (q 3), .int .u8 (q 4), .int .u8 (q 5), .int .u8 (q 6), .int .u8 (q 7), .slice y nb cy]] W (ValB (.bool true) W)) := Lib.hid fun W x cx y cy hx hy => by
          have h := isame_any (q 0) (q 1) (q 2) (q 3) (q 4) (q 5) (q 6) (q 7) (q 0) (q 1) (q 2) (q 3) (q 4) (q 5) (q 6) (q 7) x y nb nb cx cy _ _ W hx hy
          rw [decide_eq_true rfl, decide_eq_true (gap_self _)] at h
          exact h
        have hho2 : Pa.holds q BB X (Pa.body ls) (but ls k) = false := by
          rw [HF.out.2.2.2.1]
          exact holds_other q BB (Pa.body ls) HF.out.1 HBC.out (by rw [but_len (by omega)]; omega)
        have HHN : Hid (∀ W, Q6 w (some ⟨b, o, none⟩) len ls R q BB X ab nb cb (Pa.body ls) w14.heap.size hx xa nx xc ((ls.getD k []).drop 12) a13 (len - 1) (but ls k) w16.heap.size qo Bo Xo oa no co (Pa.body (but ls k)) W → Calls Try.prog 26 #[.agg #[.int .u8 (q 0), .int .u8 (q 1), .int .u8 (q 2), .int .u8 (q 3), .int .u8 (q 4), .int .u8 (q 5), .int .u8 (q 6), .int .u8 (q 7), .int .u16 BB, .int .u64 (Mk.H X), .int .u64 (Mk.L X), .slice ab nb cb], .slice a13 (len - 1) c13] W (ValB (.bool false) W)) := Lib.hid fun W hW => by
          have h := holds_any q BB X ab nb cb (Pa.body ls) a13 (len - 1) c13 (but ls k) W hW.f.ps (by omega) htr hW.f.t.bd (by omega)
          rw [hho2] at h
          exact h
        have hS := HQ6.out.all
        have HW17 := Lib.hid hw17
        clear hqo hBo hXo hno hbo hB16 h1617 ho17 hbB ho64 hto hno15 htx hnx15 hsp hne1 hlo hlx hho2 hr64 htr hnbb hnr15 hxl HMK2 hw17 HQ5 HW15 HKEEP
        go_upto_region 22 with (fail)
        rw [HW17.out]
        clear HW17
        go_region_held3 (fun W => W.cell? ⟨R, 0, none⟩ = some (.int .u8 (q 0)) ∧ W.cell? ⟨R, 1, none⟩ = some (.int .u8 (q 1)) ∧ W.cell? ⟨R, 2, none⟩ = some (.int .u8 (q 2)) ∧ W.cell? ⟨R, 3, none⟩ = some (.int .u8 (q 3)) ∧ W.cell? ⟨R, 4, none⟩ = some (.int .u8 (q 4)) ∧ W.cell? ⟨R, 5, none⟩ = some (.int .u8 (q 5)) ∧ W.cell? ⟨R, 6, none⟩ = some (.int .u8 (q 6)) ∧ W.cell? ⟨R, 7, none⟩ = some (.int .u8 (q 7)) ∧ W.cell? ⟨R, 8, none⟩ = some (.int .u16 BB) ∧ W.cell? ⟨R, 9, none⟩ = some (.int .u64 (Mk.H X)) ∧ W.cell? ⟨R, 10, none⟩ = some (.int .u64 (Mk.L X)) ∧ W.cell? ⟨R, 11, none⟩ = some (.slice ab nb cb) ∧ W.cell? ⟨w14.heap.size, 0, none⟩ = some (.int .u8 (hx 0)) ∧ W.cell? ⟨w14.heap.size, 1, none⟩ = some (.int .u8 (hx 1)) ∧ W.cell? ⟨w14.heap.size, 2, none⟩ = some (.int .u8 (hx 2)) ∧ W.cell? ⟨w14.heap.size, 3, none⟩ = some (.int .u8 (hx 3)) ∧ W.cell? ⟨w14.heap.size, 4, none⟩ = some (.int .u8 (hx 4)) ∧ W.cell? ⟨w14.heap.size, 5, none⟩ = some (.int .u8 (hx 5)) ∧ W.cell? ⟨w14.heap.size, 6, none⟩ = some (.int .u8 (hx 6)) ∧ W.cell? ⟨w14.heap.size, 7, none⟩ = some (.int .u8 (hx 7)) ∧ W.cell? ⟨w14.heap.size, 8, none⟩ = some (.slice xa nx xc) ∧ W.cell? ⟨w16.heap.size, 0, none⟩ = some (.int .u8 (qo 0)) ∧ W.cell? ⟨w16.heap.size, 1, none⟩ = some (.int .u8 (qo 1)) ∧ W.cell? ⟨w16.heap.size, 2, none⟩ = some (.int .u8 (qo 2)) ∧ W.cell? ⟨w16.heap.size, 3, none⟩ = some (.int .u8 (qo 3)) ∧ W.cell? ⟨w16.heap.size, 4, none⟩ = some (.int .u8 (qo 4)) ∧ W.cell? ⟨w16.heap.size, 5, none⟩ = some (.int .u8 (qo 5)) ∧ W.cell? ⟨w16.heap.size, 6, none⟩ = some (.int .u8 (qo 6)) ∧ W.cell? ⟨w16.heap.size, 7, none⟩ = some (.int .u8 (qo 7)) ∧ W.cell? ⟨w16.heap.size, 8, none⟩ = some (.int .u16 Bo) ∧ W.cell? ⟨w16.heap.size, 9, none⟩ = some (.int .u64 (Mk.H Xo)) ∧ W.cell? ⟨w16.heap.size, 10, none⟩ = some (.int .u64 (Mk.L Xo)) ∧ W.cell? ⟨w16.heap.size, 11, none⟩ = some (.slice oa no co) ∧ Q6 w (some ⟨b, o, none⟩) len ls R q BB X ab nb cb (Pa.body ls) w14.heap.size hx xa nx xc ((ls.getD k []).drop 12) a13 (len - 1) (but ls k) w16.heap.size qo Bo Xo oa no co (Pa.body (but ls k)) W)
          (first | with_reducible assumption | with_reducible exact Q6.drews (by with_reducible assumption) | with_reducible exact Q6.belows (by with_reducible assumption) (by with_reducible assumption))
          (first
            | (go_at_call 30; (with_reducible refine (hHo.out _ (Q6.of (by assumption))).mono ?_); rintro e wA ⟨xA, cA, rfl, hbA, hBA⟩; have HbA := Lib.hid hbA; clear hbA)
            | (go_at_call 29; refine (HAD.out _ _ _ (Q6.of (by assumption)) HbA.out).mono ?_; rintro e wC ⟨xC, cC, rfl, hbC, hBC⟩; have HbC := Lib.hid hbC; clear hbC)
            | (go_at_call 30; (with_reducible refine (HBr.out _ (Q6.of (by assumption)).f).mono ?_); rintro e wD ⟨xD, cD, rfl, hbD, hBD⟩; have HbD := Lib.hid hbD; have HbC' := Lib.hid (HbC.out.below hBD); clear hbD)
            | (go_at_call 28; refine (HSM.out _ _ _ _ _ HbC'.out HbD.out).mono ?_; rintro e wE ⟨rfl, hBE⟩)
            | (go_at_call 26; refine (HHN.out _ (Q6.of (by assumption))).mono ?_; rintro e wF ⟨rfl, hBF⟩))
        have HQE := Lib.hid (Q6.of (by assumption) : Q6 w (some ⟨b, o, none⟩) len ls R q BB X ab nb cb (Pa.body ls) w14.heap.size hx xa nx xc ((ls.getD k []).drop 12) a13 (len - 1) (but ls k) w16.heap.size qo Bo Xo oa no co (Pa.body (but ls k)) wF).f.t
        clear hHo HBr HSM HHN HAD HbA HbC HbC' HbD
        have HTZ := HQE
        clear HQE
        have c0 : wF.cell? ⟨R, 0, none⟩ = some (.int .u8 (q 0)) := by rw [cell_of_row wF _ 0 _ _ _ HTZ.out.rb]; rfl
        have c1 : wF.cell? ⟨R, 1, none⟩ = some (.int .u8 (q 1)) := by rw [cell_of_row wF _ 1 _ _ _ HTZ.out.rb]; rfl
        have c2 : wF.cell? ⟨R, 2, none⟩ = some (.int .u8 (q 2)) := by rw [cell_of_row wF _ 2 _ _ _ HTZ.out.rb]; rfl
        have c3 : wF.cell? ⟨R, 3, none⟩ = some (.int .u8 (q 3)) := by rw [cell_of_row wF _ 3 _ _ _ HTZ.out.rb]; rfl
        have c4 : wF.cell? ⟨R, 4, none⟩ = some (.int .u8 (q 4)) := by rw [cell_of_row wF _ 4 _ _ _ HTZ.out.rb]; rfl
        have c5 : wF.cell? ⟨R, 5, none⟩ = some (.int .u8 (q 5)) := by rw [cell_of_row wF _ 5 _ _ _ HTZ.out.rb]; rfl
        have c6 : wF.cell? ⟨R, 6, none⟩ = some (.int .u8 (q 6)) := by rw [cell_of_row wF _ 6 _ _ _ HTZ.out.rb]; rfl
        have c7 : wF.cell? ⟨R, 7, none⟩ = some (.int .u8 (q 7)) := by rw [cell_of_row wF _ 7 _ _ _ HTZ.out.rb]; rfl
        have c8 : wF.cell? ⟨R, 8, none⟩ = some (.int .u16 BB) := by rw [cell_of_row wF _ 8 _ _ _ HTZ.out.rb]; rfl
        have c9 : wF.cell? ⟨R, 9, none⟩ = some (.int .u64 (Mk.H X)) := by rw [cell_of_row wF _ 9 _ _ _ HTZ.out.rb]; rfl
        have c10 : wF.cell? ⟨R, 10, none⟩ = some (.int .u64 (Mk.L X)) := by rw [cell_of_row wF _ 10 _ _ _ HTZ.out.rb]; rfl
        have c11 : wF.cell? ⟨R, 11, none⟩ = some (.slice ab nb cb) := by rw [cell_of_row wF _ 11 _ _ _ HTZ.out.rb]; rfl
        obtain ⟨wT, hwT⟩ : ∃ u, wF.alloc (.cells #[.int .u8 (q 0), .int .u8 (q 1), .int .u8 (q 2), .int .u8 (q 3), .int .u8 (q 4), .int .u8 (q 5), .int .u8 (q 6), .int .u8 (q 7), .int .u16 BB, .int .u64 (Mk.H X), .int .u64 (Mk.L X), .slice ab nb cb] 32) = u := ⟨_, rfl⟩
        have hET : Below wF.heap.size wF wT := by rw [← hwT]; exact (Below.refl _ wF).alloc (Nat.le_refl _) _
        have htT : wT.heap[wF.heap.size]? = some (.cells #[.int .u8 (q 0), .int .u8 (q 1), .int .u8 (q 2), .int .u8 (q 3), .int .u8 (q 4), .int .u8 (q 5), .int .u8 (q 6), .int .u8 (q 7), .int .u16 BB, .int .u64 (Mk.H X), .int .u64 (Mk.L X), .slice ab nb cb] 32 (0, 0)) := by rw [← hwT]; exact lit_new rfl
        have HTT := Lib.hid (HTZ.out.below hET)
        have HTB := Lib.hid htT
        have HET := Lib.hid hET
        have d11 : wT.cell? ⟨R, 11, none⟩ = some (.slice ab nb cb) := by rw [cell_of_row wT _ 11 _ _ _ HTT.out.rb]; rfl
        have HWT := Lib.hid hwT
        rw [← HWT.out] at d11
        clear hwT hET htT
        go_wp2_with fail
        rw [HWT.out]
        clear c0 c1 c2 c3 c4 c5 c6 c7 c8 c9 c10 c11 d11
        have hnbT : nb = (Pa.body ls).length := HF.out.2.2.2.2
        have hnbT15 : nb ≤ 1500 := by rw [hnbT]; exact body_le HBS.out
        have htrT : ∀ j, 0 ≤ q j ∧ q j < 256 := fun j => by rw [HF.out.2.1 j]; exact Pa.head_ok HBS.out j
        have HTR := Lib.hid htrT
        refine (copy_any ab nb cb _ wT HTT.out.bd (by omega)).mono ?_
        rintro e w16 ⟨a16, c16, rfl, hO16, hB16⟩
        have htb := (hB16.block _ (Array.getElem?_eq_some_iff.1 HTB.out).1).trans HTB.out
        have hszT : wT.heap.size = wF.heap.size + 1 := by rw [← HWT.out]; simp
        have hE16 := bcomp HET.out hB16
        obtain ⟨x0, hx0⟩ : ∃ x, bits .xor .u8 (q 0) 192 = x := ⟨_, rfl⟩
        have hxx := xor192 (q 0) (htrT 0)
        rw [hx0] at hxx
        have HXX := Lib.hid hxx; have HTB16 := Lib.hid htb; have HE16 := Lib.hid hE16; have HO16 := Lib.hid hO16; have HSZ := Lib.hid hszT
        clear hnbT htrT hO16 hB16 htb hszT hE16 hxx
        have t0 : w16.cell? ⟨wF.heap.size, 0, none⟩ = some (.int .u8 (q 0)) := by rw [cell_of_row w16 _ 0 _ _ _ HTB16.out]; rfl
        have t1 : w16.cell? ⟨wF.heap.size, 1, none⟩ = some (.int .u8 (q 1)) := by rw [cell_of_row w16 _ 1 _ _ _ HTB16.out]; rfl
        have t2 : w16.cell? ⟨wF.heap.size, 2, none⟩ = some (.int .u8 (q 2)) := by rw [cell_of_row w16 _ 2 _ _ _ HTB16.out]; rfl
        have t3 : w16.cell? ⟨wF.heap.size, 3, none⟩ = some (.int .u8 (q 3)) := by rw [cell_of_row w16 _ 3 _ _ _ HTB16.out]; rfl
        have t4 : w16.cell? ⟨wF.heap.size, 4, none⟩ = some (.int .u8 (q 4)) := by rw [cell_of_row w16 _ 4 _ _ _ HTB16.out]; rfl
        have t5 : w16.cell? ⟨wF.heap.size, 5, none⟩ = some (.int .u8 (q 5)) := by rw [cell_of_row w16 _ 5 _ _ _ HTB16.out]; rfl
        have t6 : w16.cell? ⟨wF.heap.size, 6, none⟩ = some (.int .u8 (q 6)) := by rw [cell_of_row w16 _ 6 _ _ _ HTB16.out]; rfl
        have t7 : w16.cell? ⟨wF.heap.size, 7, none⟩ = some (.int .u8 (q 7)) := by rw [cell_of_row w16 _ 7 _ _ _ HTB16.out]; rfl
        have t8 : w16.cell? ⟨wF.heap.size, 8, none⟩ = some (.int .u16 BB) := by rw [cell_of_row w16 _ 8 _ _ _ HTB16.out]; rfl
        have t9 : w16.cell? ⟨wF.heap.size, 9, none⟩ = some (.int .u64 (Mk.H X)) := by rw [cell_of_row w16 _ 9 _ _ _ HTB16.out]; rfl
        have t10 : w16.cell? ⟨wF.heap.size, 10, none⟩ = some (.int .u64 (Mk.L X)) := by rw [cell_of_row w16 _ 10 _ _ _ HTB16.out]; rfl
        have t11 : w16.cell? ⟨wF.heap.size, 11, none⟩ = some (.slice ab nb cb) := by rw [cell_of_row w16 _ 11 _ _ _ HTB16.out]; rfl
        have tf : ∀ o, w16.frozen? ⟨wF.heap.size, o, none⟩ = false := fun o => frozen_of_row w16 _ o _ _ HTB16.out
        go_wp2_with fail
        obtain ⟨w18, hw18⟩ : ∃ u, (w16.setCell ⟨wF.heap.size, 11, none⟩ (.slice a16 nb c16)).setCell ⟨wF.heap.size, 0, none⟩ (.int .u8 x0) = u := ⟨_, rfl⟩
        have hE18 : Below wF.heap.size wF w18 := by rw [← hw18]; exact (HE16.out.setCell (Nat.le_refl _) _).setCell (Nat.le_refl _) _
        have hO18 : Own w18 wT.heap.size a16 nb c16 (Pa.body ls) := by rw [← hw18]; exact (HO16.out.off (set_grown _ _ _ _) (by have := HSZ.out; omega)).off (set_grown _ _ _ _) (by have := HSZ.out; omega)
        have htb18 : w18.heap[wF.heap.size]? = some (.cells #[.int .u8 x0, .int .u8 (q 1), .int .u8 (q 2), .int .u8 (q 3), .int .u8 (q 4), .int .u8 (q 5), .int .u8 (q 6), .int .u8 (q 7), .int .u16 BB, .int .u64 (Mk.H X), .int .u64 (Mk.L X), .slice a16 nb c16] 32 (0, 0)) := by rw [← hw18]; exact heap_setCell_same _ _ 0 _ _ _ (heap_setCell_same w16 _ 11 _ _ _ HTB16.out)
        have HT18 := Lib.hid (HTZ.out.below hE18)
        have HE18 := Lib.hid hE18; have HO18 := Lib.hid hO18; have HTB18 := Lib.hid htb18
        rw [hw18]
        clear hw18 hE18 hO18 htb18 t0 t1 t2 t3 t4 t5 t6 t7 t8 t9 t10 t11 tf
        refine (holds_list x0 (q 1) (q 2) (q 3) (q 4) (q 5) (q 6) (q 7) HXX.out.1 (HTR.out 1) (HTR.out 2) (HTR.out 3) (HTR.out 4) (HTR.out 5) (HTR.out 6) (HTR.out 7) BB X a16 nb c16 (Pa.body ls) (some ⟨b, o, none⟩) len cap ls w18 HT18.out.ps (by omega) HO18.out.bat (by omega) true (holds_same HF.out.1 HBS.out HF.out.2.1 HXX.out.2 HF.out.2.2.1 HF.out.2.2.2.1)).mono ?_
        rintro e w19 ⟨rfl, hB19⟩
        have HE19 := Lib.hid (HE18.out.trans (hB19.mono HE18.out.size))
        have HTB19 := Lib.hid ((hB19.block _ (Array.getElem?_eq_some_iff.1 HTB18.out).1).trans HTB18.out)
        have HO19 := Lib.hid (HO18.out.below hB19)
        clear hB19 HE18 HTB18 HO18 HT18 HE16 HO16 HTB16
        have t0 : w19.cell? ⟨wF.heap.size, 0, none⟩ = some (.int .u8 x0) := by rw [cell_of_row w19 _ 0 _ _ _ HTB19.out]; rfl
        have t1 : w19.cell? ⟨wF.heap.size, 1, none⟩ = some (.int .u8 (q 1)) := by rw [cell_of_row w19 _ 1 _ _ _ HTB19.out]; rfl
        have t2 : w19.cell? ⟨wF.heap.size, 2, none⟩ = some (.int .u8 (q 2)) := by rw [cell_of_row w19 _ 2 _ _ _ HTB19.out]; rfl
        have t3 : w19.cell? ⟨wF.heap.size, 3, none⟩ = some (.int .u8 (q 3)) := by rw [cell_of_row w19 _ 3 _ _ _ HTB19.out]; rfl
        have t4 : w19.cell? ⟨wF.heap.size, 4, none⟩ = some (.int .u8 (q 4)) := by rw [cell_of_row w19 _ 4 _ _ _ HTB19.out]; rfl
        have t5 : w19.cell? ⟨wF.heap.size, 5, none⟩ = some (.int .u8 (q 5)) := by rw [cell_of_row w19 _ 5 _ _ _ HTB19.out]; rfl
        have t6 : w19.cell? ⟨wF.heap.size, 6, none⟩ = some (.int .u8 (q 6)) := by rw [cell_of_row w19 _ 6 _ _ _ HTB19.out]; rfl
        have t7 : w19.cell? ⟨wF.heap.size, 7, none⟩ = some (.int .u8 (q 7)) := by rw [cell_of_row w19 _ 7 _ _ _ HTB19.out]; rfl
        have t8 : w19.cell? ⟨wF.heap.size, 8, none⟩ = some (.int .u16 BB) := by rw [cell_of_row w19 _ 8 _ _ _ HTB19.out]; rfl
        have t9 : w19.cell? ⟨wF.heap.size, 9, none⟩ = some (.int .u64 (Mk.H X)) := by rw [cell_of_row w19 _ 9 _ _ _ HTB19.out]; rfl
        have t10 : w19.cell? ⟨wF.heap.size, 10, none⟩ = some (.int .u64 (Mk.L X)) := by rw [cell_of_row w19 _ 10 _ _ _ HTB19.out]; rfl
        have t11 : w19.cell? ⟨wF.heap.size, 11, none⟩ = some (.slice a16 nb c16) := by rw [cell_of_row w19 _ 11 _ _ _ HTB19.out]; rfl
        have tf : ∀ o, w19.frozen? ⟨wF.heap.size, o, none⟩ = false := fun o => frozen_of_row w19 _ o _ _ HTB19.out
        rcases mask3 bit with hv | hv | hv | hv
        · obtain ⟨y0, hy0⟩ : ∃ x, bits .xor .u8 (q 1) 1 = x := ⟨_, rfl⟩
          have hyy := xor1 (q 1) (HTR.out 1)
          rw [hy0] at hyy
          have HY0 := Lib.hid hyy
          clear hyy
          go_wp2_with fail
          obtain ⟨w20, hw20⟩ : ∃ u, w19.setCell ⟨wF.heap.size, 1, none⟩ (.int .u8 y0) = u := ⟨_, rfl⟩
          have hE20 : Below wF.heap.size wF w20 := by rw [← hw20]; exact HE19.out.setCell (Nat.le_refl _) _
          have hO20 : Own w20 wT.heap.size a16 nb c16 (Pa.body ls) := by rw [← hw20]; exact HO19.out.off (set_grown _ _ _ _) (by have := HSZ.out; omega)
          have HT20 := Lib.hid (HTZ.out.below hE20); have HO20 := Lib.hid hO20
          rw [hw20]
          clear hw20 hE20 hO20
          refine (holds_list x0 y0 (q 2) (q 3) (q 4) (q 5) (q 6) (q 7) HXX.out.1 HY0.out.1 (HTR.out 2) (HTR.out 3) (HTR.out 4) (HTR.out 5) (HTR.out 6) (HTR.out 7) BB X a16 nb c16 (Pa.body ls) (some ⟨b, o, none⟩) len cap ls w20 HT20.out.ps (by omega) HO20.out.bat (by omega) false (holds_flip HF.out.2.1 x0 y0 (q 2) (q 3) (q 4) (q 5) (q 6) (q 7) (.inl HY0.out.2) BB X (Pa.body ls))).mono ?_
          rintro e w21 ⟨rfl, hB21⟩
          have HL := Lib.hid (HT20.out.below hB21).low
          clear hB21
          go_wp2
          go_ret
          exact ⟨rfl, HL.out⟩
        · obtain ⟨y0, hy0⟩ : ∃ x, bits .xor .u8 (q 2) 1 = x := ⟨_, rfl⟩
          have hyy := xor1 (q 2) (HTR.out 2)
          rw [hy0] at hyy
          have HY0 := Lib.hid hyy
          clear hyy
          go_wp2_with fail
          obtain ⟨w20, hw20⟩ : ∃ u, w19.setCell ⟨wF.heap.size, 2, none⟩ (.int .u8 y0) = u := ⟨_, rfl⟩
          have hE20 : Below wF.heap.size wF w20 := by rw [← hw20]; exact HE19.out.setCell (Nat.le_refl _) _
          have hO20 : Own w20 wT.heap.size a16 nb c16 (Pa.body ls) := by rw [← hw20]; exact HO19.out.off (set_grown _ _ _ _) (by have := HSZ.out; omega)
          have HT20 := Lib.hid (HTZ.out.below hE20); have HO20 := Lib.hid hO20
          rw [hw20]
          clear hw20 hE20 hO20
          refine (holds_list x0 (q 1) y0 (q 3) (q 4) (q 5) (q 6) (q 7) HXX.out.1 (HTR.out 1) HY0.out.1 (HTR.out 3) (HTR.out 4) (HTR.out 5) (HTR.out 6) (HTR.out 7) BB X a16 nb c16 (Pa.body ls) (some ⟨b, o, none⟩) len cap ls w20 HT20.out.ps (by omega) HO20.out.bat (by omega) false (holds_flip HF.out.2.1 x0 (q 1) y0 (q 3) (q 4) (q 5) (q 6) (q 7) (.inr (.inl HY0.out.2)) BB X (Pa.body ls))).mono ?_
          rintro e w21 ⟨rfl, hB21⟩
          have HL := Lib.hid (HT20.out.below hB21).low
          clear hB21
          go_wp2
          go_ret
          exact ⟨rfl, HL.out⟩
        · obtain ⟨y0, hy0⟩ : ∃ x, bits .xor .u8 (q 3) 1 = x := ⟨_, rfl⟩
          have hyy := xor1 (q 3) (HTR.out 3)
          rw [hy0] at hyy
          have HY0 := Lib.hid hyy
          clear hyy
          go_wp2_with fail
          obtain ⟨w20, hw20⟩ : ∃ u, w19.setCell ⟨wF.heap.size, 3, none⟩ (.int .u8 y0) = u := ⟨_, rfl⟩
          have hE20 : Below wF.heap.size wF w20 := by rw [← hw20]; exact HE19.out.setCell (Nat.le_refl _) _
          have hO20 : Own w20 wT.heap.size a16 nb c16 (Pa.body ls) := by rw [← hw20]; exact HO19.out.off (set_grown _ _ _ _) (by have := HSZ.out; omega)
          have HT20 := Lib.hid (HTZ.out.below hE20); have HO20 := Lib.hid hO20
          rw [hw20]
          clear hw20 hE20 hO20
          refine (holds_list x0 (q 1) (q 2) y0 (q 4) (q 5) (q 6) (q 7) HXX.out.1 (HTR.out 1) (HTR.out 2) HY0.out.1 (HTR.out 4) (HTR.out 5) (HTR.out 6) (HTR.out 7) BB X a16 nb c16 (Pa.body ls) (some ⟨b, o, none⟩) len cap ls w20 HT20.out.ps (by omega) HO20.out.bat (by omega) false (holds_flip HF.out.2.1 x0 (q 1) (q 2) y0 (q 4) (q 5) (q 6) (q 7) (.inr (.inr (.inl HY0.out.2))) BB X (Pa.body ls))).mono ?_
          rintro e w21 ⟨rfl, hB21⟩
          have HL := Lib.hid (HT20.out.below hB21).low
          clear hB21
          go_wp2
          go_ret
          exact ⟨rfl, HL.out⟩
        · obtain ⟨y0, hy0⟩ : ∃ x, bits .xor .u8 (q 4) 1 = x := ⟨_, rfl⟩
          have hyy := xor1 (q 4) (HTR.out 4)
          rw [hy0] at hyy
          have HY0 := Lib.hid hyy
          clear hyy
          go_wp2_with fail
          obtain ⟨w20, hw20⟩ : ∃ u, w19.setCell ⟨wF.heap.size, 4, none⟩ (.int .u8 y0) = u := ⟨_, rfl⟩
          have hE20 : Below wF.heap.size wF w20 := by rw [← hw20]; exact HE19.out.setCell (Nat.le_refl _) _
          have hO20 : Own w20 wT.heap.size a16 nb c16 (Pa.body ls) := by rw [← hw20]; exact HO19.out.off (set_grown _ _ _ _) (by have := HSZ.out; omega)
          have HT20 := Lib.hid (HTZ.out.below hE20); have HO20 := Lib.hid hO20
          rw [hw20]
          clear hw20 hE20 hO20
          refine (holds_list x0 (q 1) (q 2) (q 3) y0 (q 5) (q 6) (q 7) HXX.out.1 (HTR.out 1) (HTR.out 2) (HTR.out 3) HY0.out.1 (HTR.out 5) (HTR.out 6) (HTR.out 7) BB X a16 nb c16 (Pa.body ls) (some ⟨b, o, none⟩) len cap ls w20 HT20.out.ps (by omega) HO20.out.bat (by omega) false (holds_flip HF.out.2.1 x0 (q 1) (q 2) (q 3) y0 (q 5) (q 6) (q 7) (.inr (.inr (.inr HY0.out.2))) BB X (Pa.body ls))).mono ?_
          rintro e w21 ⟨rfl, hB21⟩
          have HL := Lib.hid (HT20.out.below hB21).low
          clear hB21
          go_wp2
          go_ret
          exact ⟨rfl, HL.out⟩
end Go.Proofs.Ytedhmoihlfjbdaa

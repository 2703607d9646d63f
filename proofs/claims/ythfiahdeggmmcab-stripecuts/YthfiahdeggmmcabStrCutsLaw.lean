/-
  StripeCuts' walk, whole.
-/
import Derived.Test.YthfiahdeggmmcabStrCuts
namespace Go.Proofs.Ythfiahdeggmmcab
open Go.RowKit Go.Shelf
set_option linter.unusedVariables false
set_option maxHeartbeats 2000000 in
set_option maxRecDepth 100000 in
theorem cuts_out (a0 : Option Addr) (n c0 : Nat) (a1 : Option Addr) (m c1 : Nat) (at' k : Int) (w : World) (h : 500 < n ∨ 500 < m ∨ n ≠ m) :
    Calls Try.prog 4 #[.slice a0 n c0, .slice a1 m c1, .int .i64 at', .int .i64 k] w (TrueBelow w) := by
  by_cases h1 : 500 < n
  · have h1z : (500 : Int) < (n : Int) := by omega
    clear h
    go_enter Try.func4, Try.ntmps4
    go_wp2_with (go_at_call 5; refine (alive_any _).mono ?_; rintro e w1 ⟨rfl, hB⟩)
    go_ret
    exact ⟨rfl, hB⟩
  · have h1z : ¬ (500 : Int) < (n : Int) := by omega
    by_cases h2 : 500 < m
    · have h2z : (500 : Int) < (m : Int) := by omega
      clear h
      go_enter Try.func4, Try.ntmps4
      go_wp2_with (go_at_call 5; refine (alive_any _).mono ?_; rintro e w1 ⟨rfl, hB⟩)
      go_ret
      exact ⟨rfl, hB⟩
    · have h2z : ¬ (500 : Int) < (m : Int) := by omega
      have h3 : ((n : Int) != (m : Int)) = true := by rw [bne_iff_ne]; omega
      clear h
      go_enter Try.func4, Try.ntmps4
      go_wp2_with (go_at_call 5; refine (alive_any _).mono ?_; rintro e w1 ⟨rfl, hB⟩)
      go_ret
      exact ⟨rfl, hB⟩
/-- What stands while StripeCuts goes on. -/
def CutSt (w : World) (a0 a1 a9 : Option Addr) (n c9 : Nat) (la lb : List Int) (W : World) : Prop := BAt W a0 n la ∧ BAt W a1 n lb ∧ Own W w.heap.size a9 n c9 (Str.xor la lb) ∧ Below w.heap.size w W
theorem CutSt.below {w : World} {a0 a1 a9 : Option Addr} {n c9 : Nat} {la lb : List Int} {W W' : World} (h : CutSt w a0 a1 a9 n c9 la lb W) (hb : Below W.heap.size W W') : CutSt w a0 a1 a9 n c9 la lb W' :=
  ⟨h.1.below hb, h.2.1.below hb, h.2.2.1.below hb, h.2.2.2.trans (hb.mono h.2.2.2.size)⟩
theorem CutSt.drewN {w : World} {a0 a1 a9 : Option Addr} {n c9 : Nat} {la lb : List Int} {W : World} (h : CutSt w a0 a1 a9 n c9 la lb W) (k : Nat) : CutSt w a0 a1 a9 n c9 la lb (W.drewN k) := h.below ⟨rfl, rfl, rfl, Nat.le_refl _, fun _ _ => rfl⟩
theorem clamp_nat (q : Nat) (h : q ≤ 65536) : Str.clamp (q : Int) = q := by unfold Str.clamp; omega
theorem CutSt.drew {w : World} {a0 a1 a9 : Option Addr} {n c9 : Nat} {la lb : List Int} {W : World} (h : CutSt w a0 a1 a9 n c9 la lb W) : CutSt w a0 a1 a9 n c9 la lb W.drew := h.below (Below.refl _ W).drew
set_option maxHeartbeats 2000000 in
set_option maxRecDepth 100000 in
theorem cuts_in (a0 : Option Addr) (n c0 : Nat) (a1 : Option Addr) (c1 : Nat) (la lb : List Int) (at' k : Int) (w : World) (hn : n ≤ 500) (ha : BAt w a0 n la) (hb : BAt w a1 n lb) (hc0 : n ≤ c0) (hc1 : n ≤ c1) :
    Calls Try.prog 4 #[.slice a0 n c0, .slice a1 n c1, .int .i64 at', .int .i64 k] w (TrueBelow w) := by
  have h1z : ¬ (500 : Int) < (n : Int) := by omega
  have h3 : ((n : Int) != (n : Int)) = false := by simp
  have HA := Lib.hid ha; have HB := Lib.hid hb; clear ha hb
  have hl : la.length = lb.length := by rw [HA.out.len, HB.out.len]
  have HL := Lib.hid hl; clear hl
  have e1 := and1023 at'
  have e2 := and1023 k
  obtain ⟨p, hp⟩ : ∃ p : Nat, at' % 1024 = p := ⟨(at' % 1024).toNat, by omega⟩
  obtain ⟨q, hq⟩ : ∃ q : Nat, k % 1024 = q := ⟨(k % 1024).toNat, by omega⟩
  have hq1 : q < 1024 := by omega
  have hp1 : p < 1024 := by omega
  rw [hp] at e1
  rw [hq] at e2
  clear hp hq
  by_cases h0 : 0 < n
  · have h0z : (0 : Int) < (n : Int) := by omega
    have e3 : ((p : Int)).tmod (n : Int) = ((p % n : Nat) : Int) := by rw [Int.tmod_eq_emod_of_nonneg (by omega)]; simp
    have hr1 : p % n < n := Nat.mod_lt _ h0
    generalize p % n = r at e3 hr1
    go_enter Try.func4, Try.ntmps4
    go_wp2_with fail
    refine (alive_any _).mono ?_
    rintro e w1 ⟨rfl, hB1⟩
    have HA1 := Lib.hid (HA.out.below hB1); have HB1 := Lib.hid (HB.out.below hB1); have HBL1 := Lib.hid hB1; clear hB1 HA HB
    go_wp2_with fail
    refine (xor_any _ _ n n c0 c1 la lb w1 HA1.out HB1.out (by omega) (by omega)).mono ?_
    rw [Nat.max_self]
    rintro e w2 ⟨a9, c9, rfl, hO2, hB2⟩
    obtain ⟨b0, o0, hr0⟩ := HA1.out.row
    obtain ⟨rfl, _⟩ := hr0 0 h0
    obtain ⟨b1, o1, hr1'⟩ := HB1.out.row
    obtain ⟨rfl, _⟩ := hr1' 0 h0
    have hst : CutSt w (some ⟨b0, o0, none⟩) (some ⟨b1, o1, none⟩) a9 n c9 la lb w2 := ⟨HA1.out.below hB2, HB1.out.below hB2, hO2.mono HBL1.out.size, HBL1.out.trans (hB2.mono HBL1.out.size)⟩
    clear hO2 hB2 HA1 HB1 HBL1 hr0 hr1'
    have i1 : (0 : Int) ≤ (r : Int) := by omega
    have i2 : (r : Int) ≤ (n : Int) := by omega
    have i3 : (n : Int) ≤ (c0 : Int) := by omega
    have i4 : (n : Int) ≤ (c1 : Int) := by omega
    have i5 : (r : Int) ≤ (c0 : Int) := by omega
    have i6 : (r : Int) ≤ (c1 : Int) := by omega
    have X1 : Hid (∀ W, CutSt w (some ⟨b0, o0, none⟩) (some ⟨b1, o1, none⟩) a9 n c9 la lb W → Calls Try.prog 9 #[.slice (some ⟨b0, o0, none⟩) r c0, .slice (some ⟨b1, o1, none⟩) r c1] W (NewB r (Str.xor (la.take r) (lb.take r)) W)) :=
      Lib.hid fun W h => by
        have := xor_any _ _ r r c0 c1 _ _ W (h.1.take r (by omega)) (h.2.1.take r (by omega)) (by omega) (by omega)
        rwa [Nat.max_self] at this
    have X2 : Hid (∀ W, CutSt w (some ⟨b0, o0, none⟩) (some ⟨b1, o1, none⟩) a9 n c9 la lb W → Calls Try.prog 9 #[.slice (some ⟨b0, o0 + r, none⟩) (n - r) (c0 - r), .slice (some ⟨b1, o1 + r, none⟩) (n - r) (c1 - r)] W (NewB (n - r) (Str.xor (la.drop r) (lb.drop r)) W)) :=
      Lib.hid fun W h => by
        have := xor_any _ _ (n - r) (n - r) (c0 - r) (c1 - r) _ _ W (h.1.drop r (by omega)) (h.2.1.drop r (by omega)) (by omega) (by omega)
        rwa [Nat.max_self] at this
    go_wp2_with fail
    go_region_held3 (CutSt w (some ⟨b0, o0, none⟩) (some ⟨b1, o1, none⟩) a9 n c9 la lb) (first | assumption | exact CutSt.drew (by assumption) | exact CutSt.below (by assumption) hB)
      (first
        | (go_at_call 9
           (with_reducible refine (X1.out _ (by assumption)).mono ?_)
           rintro e w3 ⟨a3, c3, rfl, hO3, hB⟩
           have hB3 := hB)
        | (go_at_call 9
           (with_reducible refine (X2.out _ (by assumption)).mono ?_)
           rintro e w4 ⟨a4, c4, rfl, hO4, hB⟩
           have hB4 := hB)
        | (have hbel : Below w2.heap.size w2 w4 := ((Below.refl _ w2).drew.trans hB3).trans (hB4.mono (by have := hB3.size; exact this))
           obtain ⟨a5, c5, w5, hrun, hO5, hg5, hl5⟩ := append_bytes w4 23 w2.heap.size a3 r c3 _ (hO3.below hB4) a4 (n - r) c4 _ hO4.bat (by omega) hbel.size
           have hst5 : CutSt w (some ⟨b0, o0, none⟩) (some ⟨b1, o1, none⟩) a9 n c9 la lb w5 := hst.below (hbel.grown hg5 hbel.size (fun x e => by
             cases a3 with
             | none => cases e
             | some y => have := (hO3.blk y rfl).1; simp at e; subst e; exact this))
           refine step_append_run rfl (.tmp 46) (.tmp 53) 23 23 rfl (.slice a3 r c3) (.slice a4 (n - r) c4) (by rfl) (by rfl) _ _ hrun ?_))
    rw [xor_parts la lb r HL.out (by have := hst.1.len; omega)] at hO5
    rw [show r + (n - r) = n by omega] at hO5 ⊢
    have HO5 := Lib.hid hO5; have HS5 := Lib.hid hst5
    clear hO5 hst5 hst hO3 hO4 hB3 hB4 hg5 hl5 hrun hbel X1 X2 i1 i2 i3 i4 i5 i6
    go_wp2_with fail
    refine (same_any _ _ n n c5 c9 _ _ w5 HO5.out.bat HS5.out.2.2.1.bat).mono ?_
    rw [decide_eq_true rfl]
    rintro e w6 ⟨rfl, j0, rfl⟩
    have HST := Lib.hid (HS5.out.drewN j0); clear HS5 HO5
    have F1 : Hid (∀ W, CutSt w (some ⟨b0, o0, none⟩) (some ⟨b1, o1, none⟩) a9 n c9 la lb W → Calls Try.prog 12 #[.slice (some ⟨b0, o0, none⟩) n c0, .int .i64 (↑q + 7)] W (NewB (q + 7) (Str.fit la (q + 7)) W)) :=
      Lib.hid fun W h => by
        have := fit_any _ n c0 la ((q : Int) + 7) W h.1 (by omega) (by omega)
        rwa [show ((q : Int) + 7) = ((q + 7 : Nat) : Int) by omega, clamp_nat _ (by omega)] at this
    have F2 : Hid (∀ W, CutSt w (some ⟨b0, o0, none⟩) (some ⟨b1, o1, none⟩) a9 n c9 la lb W → Calls Try.prog 12 #[.slice (some ⟨b0, o0, none⟩) n c0, .int .i64 q] W (NewB q (Str.fit la q) W)) :=
      Lib.hid fun W h => by
        have := fit_any _ n c0 la (q : Int) W h.1 (by omega) (by omega)
        rwa [clamp_nat _ (by omega)] at this
    have F3 : Hid (∀ W a c, BAt W a (q + 7) (Str.fit la (q + 7)) → Calls Try.prog 12 #[.slice a (q + 7) c, .int .i64 q] W (NewB q (Str.fit la q) W)) :=
      Lib.hid fun W a c h => by
        have := fit_any a (q + 7) c _ (q : Int) W h (by omega) (by omega)
        rwa [clamp_nat _ (by omega), fit_fit _ _ _ (by omega)] at this
    have h4 : ((q : Int) != (q : Int)) = false := by simp
    have h5 : ((n : Int) == (n : Int)) = true := by simp
    have hz := zero_eq la lb HST.out.1.ok HST.out.2.1.ok HL.out
    have hg := gap_eq la lb HL.out
    have Z1 : Hid (∀ W, CutSt w (some ⟨b0, o0, none⟩) (some ⟨b1, o1, none⟩) a9 n c9 la lb W → Calls Try.prog 10 #[.slice a9 n c9] W (SameV (.bool (decide (la = lb))) W)) :=
      Lib.hid fun W h => by rw [← hz]; exact zero_any _ n c9 _ W h.2.2.1.bat
    have Z2 : Hid (∀ W, CutSt w (some ⟨b0, o0, none⟩) (some ⟨b1, o1, none⟩) a9 n c9 la lb W → Calls Try.prog 11 #[.slice (some ⟨b0, o0, none⟩) n c0, .slice (some ⟨b1, o1, none⟩) n c1] W (Drawn (.bool (decide (la = lb))) W)) :=
      Lib.hid fun W h => same_any _ _ n n c0 c1 la lb W h.1 h.2.1
    have Z3 : Hid (∀ W, CutSt w (some ⟨b0, o0, none⟩) (some ⟨b1, o1, none⟩) a9 n c9 la lb W → Calls Try.prog 8 #[.slice (some ⟨b0, o0, none⟩) n c0, .slice (some ⟨b1, o1, none⟩) n c1] W (SameV (.int .i64 (Str.gap la lb)) W)) :=
      Lib.hid fun W h => gap_any _ _ n n c0 c1 la lb W h.1 h.2.1
    generalize Str.gap la lb = gg at hg Z3
    generalize decide (la = lb) = dd at hg Z1 Z2
    have h6 : (dd == dd) = true := by cases dd <;> rfl
    clear hz
    go_wp2_with fail
    refine (F1.out _ HST.out).mono ?_
    rintro e w7 ⟨a7, c7, rfl, hO7, hB7⟩
    have HS7 := Lib.hid (HST.out.below hB7); have HO7 := Lib.hid hO7; clear hO7 hB7 HST
    go_wp2_with fail
    refine (F3.out _ _ _ HO7.out.bat).mono ?_
    rintro e w8 ⟨a8, c8, rfl, hO8, hB8⟩
    have HS8 := Lib.hid (HS7.out.below hB8); have HO8 := Lib.hid hO8; clear hO8 hB8 HO7 HS7
    go_wp2_with fail
    refine (F2.out _ HS8.out).mono ?_
    rintro e w9 ⟨a10, c10, rfl, hO9, hB9⟩
    have HS9 := Lib.hid (HS8.out.below hB9); have HO9 := Lib.hid hO9; have HO8' := Lib.hid (HO8.out.below hB9); clear hO9 hB9 HO8 HS8
    go_wp2_with fail
    refine (same_any _ _ q q c8 c10 _ _ w9 HO8'.out.bat HO9.out.bat).mono ?_
    rw [decide_eq_true rfl]
    rintro e w10 ⟨rfl, j, rfl⟩
    have HS10 := Lib.hid (HS9.out.drewN j); clear HS9 HO9 HO8'
    go_wp2_with fail
    refine (Z1.out _ HS10.out).mono ?_
    rintro e w11 ⟨rfl, rfl⟩
    go_wp2_with fail
    refine (Z2.out _ HS10.out).mono ?_
    rintro e w12 ⟨rfl, j2, rfl⟩
    have hs12 := HS10.out.drewN j2
    rw [World.drewN_drewN] at hs12
    have HS12 := Lib.hid hs12; clear HS10 hs12
    go_wp2_with fail
    refine (Z3.out _ HS12.out).mono ?_
    rintro e w13 ⟨rfl, rfl⟩
    go_wp2_with fail
    refine (Z2.out _ HS12.out).mono ?_
    rintro e w14 ⟨rfl, j3, rfl⟩
    have hs14 := HS12.out.drewN j3
    rw [World.drewN_drewN] at hs14
    have HS14 := Lib.hid hs14; clear HS12 hs14
    go_wp2
    go_ret
    exact ⟨rfl, HS14.out.2.2.2⟩
  · obtain rfl : n = 0 := by omega
    go_enter Try.func4, Try.ntmps4
    go_wp2_with fail
    refine (alive_any _).mono ?_
    rintro e w1 ⟨rfl, hB1⟩
    have HA1 := Lib.hid (HA.out.below hB1); have HB1 := Lib.hid (HB.out.below hB1); have HBL1 := Lib.hid hB1; clear hB1 HA HB
    go_wp2_with fail
    refine (xor_any _ _ 0 0 c0 c1 la lb w1 HA1.out HB1.out (by omega) (by omega)).mono ?_
    rw [Nat.max_self]
    rintro e w2 ⟨a9, c9, rfl, hO2, hB2⟩
    have hst : CutSt w a0 a1 a9 0 c9 la lb w2 := ⟨HA1.out.below hB2, HB1.out.below hB2, hO2.mono HBL1.out.size, HBL1.out.trans (hB2.mono HBL1.out.size)⟩
    have HST := Lib.hid hst; clear hO2 hB2 HA1 HB1 HBL1 hst
    have F1 : Hid (∀ W, CutSt w a0 a1 a9 0 c9 la lb W → Calls Try.prog 12 #[.slice a0 0 c0, .int .i64 (↑q + 7)] W (NewB (q + 7) (Str.fit la (q + 7)) W)) :=
      Lib.hid fun W h => by
        have := fit_any _ 0 c0 la ((q : Int) + 7) W h.1 (by omega) (by omega)
        rwa [show ((q : Int) + 7) = ((q + 7 : Nat) : Int) by omega, clamp_nat _ (by omega)] at this
    have F2 : Hid (∀ W, CutSt w a0 a1 a9 0 c9 la lb W → Calls Try.prog 12 #[.slice a0 0 c0, .int .i64 q] W (NewB q (Str.fit la q) W)) :=
      Lib.hid fun W h => by
        have := fit_any _ 0 c0 la (q : Int) W h.1 (by omega) (by omega)
        rwa [clamp_nat _ (by omega)] at this
    have F3 : Hid (∀ W a c, BAt W a (q + 7) (Str.fit la (q + 7)) → Calls Try.prog 12 #[.slice a (q + 7) c, .int .i64 q] W (NewB q (Str.fit la q) W)) :=
      Lib.hid fun W a c h => by
        have := fit_any a (q + 7) c _ (q : Int) W h (by omega) (by omega)
        rwa [clamp_nat _ (by omega), fit_fit _ _ _ (by omega)] at this
    have h4 : ((q : Int) != (q : Int)) = false := by simp
    have hz := zero_eq la lb HST.out.1.ok HST.out.2.1.ok HL.out
    have hg := gap_eq la lb HL.out
    have Z1 : Hid (∀ W, CutSt w a0 a1 a9 0 c9 la lb W → Calls Try.prog 10 #[.slice a9 0 c9] W (SameV (.bool (decide (la = lb))) W)) :=
      Lib.hid fun W h => by rw [← hz]; exact zero_any _ 0 c9 _ W h.2.2.1.bat
    have Z2 : Hid (∀ W, CutSt w a0 a1 a9 0 c9 la lb W → Calls Try.prog 11 #[.slice a0 0 c0, .slice a1 0 c1] W (Drawn (.bool (decide (la = lb))) W)) :=
      Lib.hid fun W h => same_any _ _ 0 0 c0 c1 la lb W h.1 h.2.1
    have Z3 : Hid (∀ W, CutSt w a0 a1 a9 0 c9 la lb W → Calls Try.prog 8 #[.slice a0 0 c0, .slice a1 0 c1] W (SameV (.int .i64 (Str.gap la lb)) W)) :=
      Lib.hid fun W h => gap_any _ _ 0 0 c0 c1 la lb W h.1 h.2.1
    generalize Str.gap la lb = gg at hg Z3
    generalize decide (la = lb) = dd at hg Z1 Z2
    have h6 : (dd == dd) = true := by cases dd <;> rfl
    clear hz
    go_wp2_with fail
    refine (F1.out _ HST.out).mono ?_
    rintro e w7 ⟨a7, c7, rfl, hO7, hB7⟩
    have HS7 := Lib.hid (HST.out.below hB7); have HO7 := Lib.hid hO7; clear hO7 hB7 HST
    go_wp2_with fail
    refine (F3.out _ _ _ HO7.out.bat).mono ?_
    rintro e w8 ⟨a8, c8, rfl, hO8, hB8⟩
    have HS8 := Lib.hid (HS7.out.below hB8); have HO8 := Lib.hid hO8; clear hO8 hB8 HO7 HS7
    go_wp2_with fail
    refine (F2.out _ HS8.out).mono ?_
    rintro e w9 ⟨a10, c10, rfl, hO9, hB9⟩
    have HS9 := Lib.hid (HS8.out.below hB9); have HO9 := Lib.hid hO9; have HO8' := Lib.hid (HO8.out.below hB9); clear hO9 hB9 HO8 HS8
    go_wp2_with fail
    refine (same_any _ _ q q c8 c10 _ _ w9 HO8'.out.bat HO9.out.bat).mono ?_
    rw [decide_eq_true rfl]
    rintro e w10 ⟨rfl, j, rfl⟩
    have HS10 := Lib.hid (HS9.out.drewN j); clear HS9 HO9 HO8'
    go_wp2_with fail
    refine (Z1.out _ HS10.out).mono ?_
    rintro e w11 ⟨rfl, rfl⟩
    go_wp2_with fail
    refine (Z2.out _ HS10.out).mono ?_
    rintro e w12 ⟨rfl, j2, rfl⟩
    have hs12 := HS10.out.drewN j2
    rw [World.drewN_drewN] at hs12
    have HS12 := Lib.hid hs12; clear HS10 hs12
    go_wp2_with fail
    refine (Z3.out _ HS12.out).mono ?_
    rintro e w13 ⟨rfl, rfl⟩
    go_wp2_with fail
    refine (Z2.out _ HS12.out).mono ?_
    rintro e w14 ⟨rfl, j3, rfl⟩
    have hs14 := HS12.out.drewN j3
    rw [World.drewN_drewN] at hs14
    have HS14 := Lib.hid hs14; clear HS12 hs14
    go_wp2
    go_ret
    exact ⟨rfl, HS14.out.2.2.2⟩
theorem walk_StripeCuts (a0 : Option Addr) (len0 cap0 : Nat) (z0 : List Int) (a1 : Option Addr) (len1 cap1 : Nat) (z1 : List Int) (a2 a3 : Int) (w : World) (w0 : IntRow .u8 w a0 len0 cap0 z0) (w1 : IntRow .u8 w a1 len1 cap1 z1) :
    Calls Try.prog 4 #[.slice a0 len0 cap0, .slice a1 len1 cap1, .int .i64 a2, .int .i64 a3] w (TrueBelow w) := by
  obtain ⟨b0, l0⟩ := w0.bat
  obtain ⟨b1, l1⟩ := w1.bat
  by_cases h : 500 < len0 ∨ 500 < len1 ∨ len0 ≠ len1
  · exact cuts_out a0 len0 cap0 a1 len1 cap1 a2 a3 w h
  · obtain rfl : len0 = len1 := by omega
    exact cuts_in a0 len0 cap0 a1 cap1 _ _ a2 a3 w (by omega) b0 b1 l0 l1
end Go.Proofs.Ythfiahdeggmmcab

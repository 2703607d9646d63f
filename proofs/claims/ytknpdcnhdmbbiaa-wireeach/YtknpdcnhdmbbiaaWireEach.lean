
/-
  WireEach's walk.
-/
import Derived.Test.YtknpdcnhdmbbiaaWireEach1
namespace Go.Proofs.Ytknpdcnhdmbbiaa
open Go.RowKit Go.Shelf
set_option linter.unusedVariables false
def EaSt (w : World) (a : Option Addr) (n : Nat) (l : List Int) (a0 : Option Addr) (n0 : Nat) (ks ns : Nat → Int) (W : World) : Prop :=
  BAt W a n l ∧ StAt W a0 n0 ks ns ∧ Below w.heap.size w W
theorem EaSt.below {w : World} {a : Option Addr} {n : Nat} {l : List Int} {a0 : Option Addr} {n0 : Nat} {ks ns : Nat → Int} {W W' : World} (h : EaSt w a n l a0 n0 ks ns W) (hb : Below W.heap.size W W') : EaSt w a n l a0 n0 ks ns W' :=
  ⟨h.1.below hb, h.2.1.below hb, h.2.2.trans (hb.mono h.2.2.size)⟩
theorem eX_bd {ks ns : Nat → Int} {l : List Int} {n n0 : Nat} {most : Int} (hl : Str.Ok l) (hln : l.length = n) (hn : n ≤ 300) (r : Nat) (hg : Good ks ns n n0 most r) (j : Nat) (hj : j < n0) : 0 ≤ eX ks ns l n n0 r j ∧ eX ks ns l n n0 r j < 18446744073709551616 := by
  have hd : (l.drop (eachP ks ns n n0 r)).length = n - eachP ks ns n n0 r := by rw [List.length_drop, hln]
  refine gotX_bd (fun i => ?_) (by rw [hd]; omega) j (by rw [hd]; exact hg.2.1 j hj)
  have := hl (eachP ks ns n n0 r + i)
  simpa [List.getD_eq_getElem?_getD, List.getElem?_drop] using this
set_option maxHeartbeats 4000000 in
set_option maxRecDepth 100000 in
theorem each_any (a : Option Addr) (n c : Nat) (l : List Int) (a0 : Option Addr) (n0 c0 : Nat) (ks ns : Nat → Int) (most : Int) (w : World) (hb : BAt w a n l) (hc : n ≤ c) (hs : StAt w a0 n0 ks ns) :
    Calls Try.prog 3 #[.slice a n c, .slice a0 n0 c0, .int .i64 most] w (TrueBelow w) := by
  by_cases hbig : 300 < n ∨ 10 < n0
  · have hcase : (300 : Int) < (n : Int) ∨ ¬ (300 : Int) < (n : Int) ∧ (10 : Int) < (n0 : Int) := by omega
    clear hbig hb hs
    rcases hcase with h1 | ⟨h1, h2⟩
    all_goals
      go_enter Try.func3, Try.ntmps3
      go_wp2_with fail
      refine (walive_any _).mono ?_
      rintro e w1 ⟨rfl, hB⟩
      go_wp2
      go_ret
      exact ⟨rfl, hB⟩
  · have h1 : ¬ (300 : Int) < (n : Int) := by omega
    have h2 : ¬ (10 : Int) < (n0 : Int) := by omega
    obtain ⟨R, rows, f, hR, hrw, hgood, hsay⟩ := each_says ks ns n n0 most
    have EACH : Hid (∀ S W, EaSt w a n l a0 n0 ks ns W → W.cell? ⟨S, 0, none⟩ = some (.slice a0 n0 c0) → Calls Try.prog 11 #[.slice a n c, .int .i64 most, .func (.func 52) #[] #[.pointer (some ⟨S, 0, none⟩)]] W (EOut rows n0 (eX ks ns l n n0) (eB ks ns l n n0) f W)) := Lib.hid fun S W h h4 => weach_any a n c l S a0 n0 c0 ks ns most R rows f W h.1 hc h.2.1 h4 (by omega) (by omega) hR hgood hsay
    have REF : Hid (∀ W, EaSt w a n l a0 n0 ks ns W → Calls Try.prog 13 #[.slice a n c, .int .i64 most, .slice a0 n0 c0] W (EOut rows n0 (eX ks ns l n n0) (eB ks ns l n n0) f W)) := Lib.hid fun W h => reach_any a n c l a0 n0 c0 ks ns most R rows f W h.1 hc h.2.1 (by omega) (by omega) hR hgood hsay
    have BD : Hid (∀ r, r < rows → ∀ j, j < n0 → 0 ≤ eX ks ns l n n0 r j ∧ eX ks ns l n n0 r j < 18446744073709551616) := Lib.hid fun r hr j hj => eX_bd hb.ok hb.len (by omega) r (hgood r (by omega)) j hj
    have HST := Lib.hid (show EaSt w a n l a0 n0 ks ns w from ⟨hb, hs, Below.refl _ _⟩)
    clear hb hs hgood hsay
    generalize eX ks ns l n n0 = X at EACH REF BD
    generalize eB ks ns l n n0 = B at EACH REF
    go_enter Try.func3, Try.ntmps3
    go_wp2_with fail
    refine (walive_any _).mono ?_
    rintro e w1 ⟨rfl, hB⟩
    have HS1 := Lib.hid (HST.out.below hB); clear hB HST
    go_wp2_with fail
    refine (parse_fn a0 n0 c0 w1).mono ?_
    rintro e w2 ⟨S, rfl, hS2, hB2⟩
    have HS2 := Lib.hid (HS1.out.below hB2); have HC2 := Lib.hid hS2; clear hB2 hS2 HS1
    go_wp2_with fail
    refine (EACH.out S w2 HS2.out HC2.out).mono ?_
    rintro e w3 ⟨a3, c3, rfl, hE3, hB3⟩
    have HS3 := Lib.hid (HS2.out.below hB3); have HE3 := Lib.hid hE3; clear hB3 hE3 HS2 HC2 EACH
    go_wp2_with fail
    refine (REF.out w3 HS3.out).mono ?_
    rintro e w4 ⟨a4, c4, rfl, hE4, hB4⟩
    have HS4 := Lib.hid (HS3.out.below hB4); have HE34 := Lib.hid (HE3.out.below hB4); have HE4 := Lib.hid hE4; clear hB4 hE4 HS3 HE3 REF
    have hff : (f != f) = false := by simp
    have hrr : ((rows : Int) != (rows : Int)) = false := by simp
    go_wp2_with fail
    go_loopw [49] (fun iv wr => ∃ (i m : Nat), i ≤ rows ∧ iv = .int .i64 i ∧ Hid (wr = w4.drewN m)) (fun iv _ => rows - (intOf iv).toNat)
    case atStart => exact ⟨0, 0, Nat.zero_le _, rfl, Lib.hid rfl⟩
    case round =>
      obtain ⟨i, m, hi, rfl, HW⟩ := hrel
      by_cases hlt : i < rows
      · have hltz : (i : Int) < (rows : Int) := by omega
        obtain ⟨g1, a5, c5, A5, L5, C5, rfl, d1, t1⟩ := HE34.out.at i hlt (BD.out i hlt)
        obtain ⟨g2, a6, c6, A6, L6, C6, rfl, d2, t2⟩ := HE4.out.at i hlt (BD.out i hlt)
        have HSA : Hid (∀ j, Calls Try.prog 14 #[.slice a5 n0 c5, .slice a6 n0 c6] (wr.drewN j) (Drawn (.bool true) (wr.drewN j))) := Lib.hid fun j => by
          rw [HW.out, World.drewN_drewN]
          exact gsame_any a5 a6 n0 c5 c6 (X i) A5 A6 L5 L6 C5 C6 (B i) (w4.drewN (m + j)) (t1.below (below_drewN w4 _ _)) (t2.below (below_drewN w4 _ _)) (by omega)
        have d1 : wr.cell? ⟨g1, i, none⟩ = some (.slice a5 n0 c5) := by rw [HW.out]; exact d1
        have d2 : wr.cell? ⟨g2, i, none⟩ = some (.slice a6 n0 c6) := by rw [HW.out]; exact d2
        clear t1 t2
        go_wp2_with fail
        go_quiet ((go_at_call 14; exact Calls.quiet_of ((HSA.out _).mono fun _ _ ⟨u, k, v⟩ => ⟨u, k, v⟩)))
        go_wp2
        go_roundw
        case rel => exact ⟨i + 1, m + nq, by omega, by go_num, Lib.hid (by rw [HW.out, World.drewN_drewN])⟩
        case measure => simp [intOf]; omega
      · have hltz : ¬ (i : Int) < (rows : Int) := by omega
        go_wp2
        go_ret
        refine ⟨rfl, ?_⟩
        rw [HW.out]
        exact HS4.out.2.2.trans (below_drewN w4 _ m)
theorem walk_WireEach (a0 : Option Addr) (len0 cap0 : Nat) (z0 : List Int) (a1 : Option Addr) (len1 cap1 : Nat) (ks1 ns1 : Nat → Int) (a2 : Int) (w : World) (w0 : IntRow .u8 w a0 len0 cap0 z0) (w1 : StIn w a1 len1 cap1 ks1 ns1) :
    Calls Try.prog 3 #[.slice a0 len0 cap0, .slice a1 len1 cap1, .int .i64 a2] w (TrueBelow w) :=
  each_any a0 len0 cap0 _ a1 len1 cap1 ks1 ns1 a2 w w0.bat.1 w0.bat.2 w1.at.1
end Go.Proofs.Ytknpdcnhdmbbiaa

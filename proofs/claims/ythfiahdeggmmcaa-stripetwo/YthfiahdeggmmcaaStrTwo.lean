/-
  StripeTwo's walk.
-/
import Derived.Test.YthfiahdeggmmcaaStrRef2
namespace Go.Proofs.Ythfiahdeggmmcaa
open Go.RowKit Go.Shelf
set_option linter.unusedVariables false
/-- The slice a of len slices: their addresses, lengths and capacities. -/
def VAt (W : World) (a : Option Addr) (len : Nat) (av : Nat → Option Addr) (nv cv : Nat → Nat) : Prop :=
  ∃ b o, ∀ k, k < len → a = some ⟨b, o, none⟩ ∧ b < W.heap.size ∧ W.cell? ⟨b, o + k, none⟩ = some (.slice (av k) (nv k) (cv k)) ∧ nv k ≤ 9223372036854775807
theorem VAt.below {W W' : World} {a : Option Addr} {len : Nat} {av : Nat → Option Addr} {nv cv : Nat → Nat} (h : VAt W a len av nv cv) (hb : Below W.heap.size W W') : VAt W' a len av nv cv := by
  obtain ⟨b, o, hr⟩ := h
  refine ⟨b, o, fun k hk => ?_⟩
  obtain ⟨h1, h2, h3, h4⟩ := hr k hk
  exact ⟨h1, by have := hb.size; omega, (hb.cell (p := ⟨b, o + k, none⟩) h2).trans h3, h4⟩
def smallB (len : Nat) (nv : Nat → Nat) : Bool := decide ((∀ k, k < len → nv k ≤ 500) ∧ len ≤ 30)
set_option maxHeartbeats 1000000 in
set_option maxRecDepth 100000 in
theorem small_any (a : Option Addr) (len c : Nat) (av : Nat → Option Addr) (nv cv : Nat → Nat) (w : World) (h : VAt w a len av nv cv) (hlen : len ≤ 9223372036854775807) :
    Calls Try.prog 26 #[.slice a len c] w (SameV (.bool (smallB len nv)) w) := by
  obtain ⟨b, o, hr⟩ := h
  have HR := Lib.hid hr; clear hr
  go_enter Try.func26, Try.ntmps26
  go_wp2
  go_loop [7] (fun i => ∃ k : Nat, k ≤ len ∧ i = .int .i64 k ∧ Hid (∀ j, j < k → nv j ≤ 500)) (fun i => len - (intOf i).toNat)
  case atStart => exact ⟨0, Nat.zero_le _, rfl, Lib.hid (fun j hj => by omega)⟩
  case round =>
    obtain ⟨k, hk, rfl, HE⟩ := hrel
    by_cases hlt : k < len
    · have hltz : (k : Int) < (len : Int) := by omega
      obtain ⟨rfl, _, d, q⟩ := HR.out k hlt
      by_cases h5 : 500 < nv k
      · have hs : smallB len nv = false := decide_eq_false fun h => by have := h.1 k hlt; omega
        have HS := Lib.hid hs; clear hs
        generalize nv k = z at d q h5
        have h5z : (500 : Int) < (z : Int) := by omega
        go_wp2
        go_ret
        exact ⟨by rw [HS.out] <;> rfl, rfl⟩
      · have HE' : Hid (∀ j, j < k + 1 → nv j ≤ 500) := Lib.hid fun j hj => by
          by_cases e : j = k
          · subst e; omega
          · exact HE.out j (by omega)
        generalize nv k = z at d q h5
        have h5z : ¬ (500 : Int) < (z : Int) := by omega
        go_wp2
        go_round
        case rel => exact ⟨k + 1, by omega, by go_num, HE'⟩
        case measure => simp [intOf]; omega
    · have hltz : ¬ (k : Int) < (len : Int) := by omega
      obtain rfl : k = len := by omega
      have hs : smallB k nv = decide ((k : Int) ≤ 30) := by
        unfold smallB
        by_cases h : k ≤ 30
        · rw [decide_eq_true (show (k : Int) ≤ 30 by omega), decide_eq_true ⟨HE.out, h⟩]
        · rw [decide_eq_false (show ¬ (k : Int) ≤ 30 by omega), decide_eq_false (fun hh => h hh.2)]
      have HS := Lib.hid hs; clear hs
      go_wp2
      go_ret
      exact ⟨by rw [HS.out] <;> rfl, rfl⟩
theorem vat_two (w : World) (a b : Option Addr) (n m c d : Nat) (hn : n ≤ 9223372036854775807) (hm : m ≤ 9223372036854775807) :
    VAt (w.alloc (.cells #[.slice a n c, .slice b m d] 22)) (some ⟨w.heap.size, 0, none⟩) 2 (fun k => if k = 0 then a else b) (fun k => if k = 0 then n else m) (fun k => if k = 0 then c else d) := by
  refine ⟨w.heap.size, 0, fun k hk => ?_⟩
  match k, hk with
  | 0, _ => exact ⟨rfl, by simp, by simp [go_sem], hn⟩
  | 1, _ => exact ⟨rfl, by simp, by simp [go_sem], hm⟩
theorem small_two (w : World) (a b : Option Addr) (n m c d : Nat) (hn : n ≤ 9223372036854775807) (hm : m ≤ 9223372036854775807) :
    Calls Try.prog 26 #[.slice (some ⟨w.heap.size, 0, none⟩) 2 2] (w.alloc (.cells #[.slice a n c, .slice b m d] 22)) (SameV (.bool (decide (n ≤ 500 ∧ m ≤ 500))) (w.alloc (.cells #[.slice a n c, .slice b m d] 22))) := by
  have h := small_any (some ⟨w.heap.size, 0, none⟩) 2 2 _ _ _ _ (vat_two w a b n m c d hn hm) (by decide)
  have e : smallB 2 (fun k => if k = 0 then n else m) = decide (n ≤ 500 ∧ m ≤ 500) := by
    unfold smallB
    by_cases hh : n ≤ 500 ∧ m ≤ 500
    · rw [decide_eq_true hh, decide_eq_true ⟨fun k hk => by match k, hk with | 0, _ => exact hh.1 | 1, _ => exact hh.2, by decide⟩]
    · rw [decide_eq_false hh, decide_eq_false fun g => hh ⟨g.1 0 (by decide), g.1 1 (by decide)⟩]
  rwa [e] at h
theorem held_clamp (k : Int) : (if k < 0 then 0 else if 65536 < k then 65536 else k) = ((Str.clamp k : Nat) : Int) := by
  unfold Str.clamp; split <;> (try split) <;> omega
set_option maxHeartbeats 2000000 in
set_option maxRecDepth 100000 in
theorem two_out (a0 : Option Addr) (n c0 : Nat) (a1 : Option Addr) (m c1 : Nat) (k : Int) (w : World) (hn : n ≤ 9223372036854775807) (hm : m ≤ 9223372036854775807) (h : ¬ (n ≤ 500 ∧ m ≤ 500) ∨ 3000 < k ∧ k < 65536) :
    Calls Try.prog 9 #[.slice a0 n c0, .slice a1 m c1, .int .i64 k] w (TrueBelow w) := by
  have hs := fun W => small_two W a0 a1 n m c0 c1 hn hm
  by_cases h1 : n ≤ 500 ∧ m ≤ 500
  · have h2 : 3000 < k ∧ k < 65536 := by rcases h with h | h; exact absurd h1 h; exact h
    obtain ⟨h2, h3⟩ := h2
    rw [decide_eq_true h1] at hs
    have HS := Lib.hid hs; clear hs h h1
    go_enter Try.func9, Try.ntmps9
    go_wp2_with (first
      | (go_at_call 25; refine (alive_any _).mono ?_; rintro e w1 ⟨rfl, hB⟩)
      | (go_at_call 26; refine (HS.out _).mono ?_; rintro e w2 ⟨rfl, rfl⟩))
    go_ret
    exact ⟨rfl, hB.alloc hB.size _⟩
  · rw [decide_eq_false h1] at hs
    have HS := Lib.hid hs; clear hs h h1
    go_enter Try.func9, Try.ntmps9
    go_wp2_with (first
      | (go_at_call 25; refine (alive_any _).mono ?_; rintro e w1 ⟨rfl, hB⟩)
      | (go_at_call 26; refine (HS.out _).mono ?_; rintro e w2 ⟨rfl, rfl⟩))
    go_ret
    exact ⟨rfl, hB.alloc hB.size _⟩
def TwoSt (w : World) (a0 a1 : Option Addr) (n m : Nat) (la lb : List Int) (W : World) : Prop := BAt W a0 n la ∧ BAt W a1 m lb ∧ Below w.heap.size w W
theorem TwoSt.below {w : World} {a0 a1 : Option Addr} {n m : Nat} {la lb : List Int} {W W' : World} (h : TwoSt w a0 a1 n m la lb W) (hb : Below W.heap.size W W') : TwoSt w a0 a1 n m la lb W' :=
  ⟨h.1.below hb, h.2.1.below hb, h.2.2.trans (hb.mono h.2.2.size)⟩
set_option maxHeartbeats 2000000 in
set_option maxRecDepth 100000 in
theorem two_in (a0 : Option Addr) (n c0 : Nat) (a1 : Option Addr) (m c1 : Nat) (la lb : List Int) (k : Int) (w : World) (ha : BAt w a0 n la) (hb : BAt w a1 m lb) (hn : n ≤ 500) (hm : m ≤ 500) (h : k ≤ 3000 ∨ 65536 ≤ k) (hk1 : -9223372036854775808 ≤ k) (hk2 : k ≤ 9223372036854775807) :
    Calls Try.prog 9 #[.slice a0 n c0, .slice a1 m c1, .int .i64 k] w (TrueBelow w) := by
  have hs := fun W => small_two W a0 a1 n m c0 c1 (by omega) (by omega)
  rw [decide_eq_true ⟨hn, hm⟩] at hs
  have HS := Lib.hid hs; clear hs
  have HA := Lib.hid ha; have HB := Lib.hid hb; clear ha hb
  have hcl := held_clamp k
  have hhd := fun W => held_any k 0 65536 W
  rw [hcl] at hhd
  have HHD := Lib.hid hhd; clear hhd hcl
  have hcm : Str.clamp k ≤ 65536 := by unfold Str.clamp; omega
  have F1 : Hid (∀ W, TwoSt w a0 a1 n m la lb W → Calls Try.prog 39 #[.slice a0 n c0, .int .i64 k] W (NewB (Str.clamp k) (Str.fit la (Str.clamp k)) W)) := Lib.hid fun W h => fit_any a0 n c0 la k W h.1 hk1 hk2
  have F2 : Hid (∀ W, TwoSt w a0 a1 n m la lb W → Calls Try.prog 40 #[.slice a0 n c0, .int .i64 (Str.clamp k : Nat)] W (NewB (Str.clamp k) (Str.fit la (Str.clamp k)) W)) := Lib.hid fun W h => rfit_any a0 n c0 la _ W h.1 hcm
  generalize Str.clamp k = q at F1 F2 HHD
  have G1 : Hid (∀ W, TwoSt w a0 a1 n m la lb W → Calls Try.prog 36 #[.slice a0 n c0, .slice a1 m c1] W (SameV (.int .i64 (Str.gap la lb)) W)) := Lib.hid fun W h => gap_any a0 a1 n m c0 c1 la lb W h.1 h.2.1
  have G2 : Hid (∀ W, TwoSt w a0 a1 n m la lb W → Calls Try.prog 37 #[.slice a0 n c0, .slice a1 m c1] W (SameV (.int .i64 (Str.gap la lb)) W)) := Lib.hid fun W h => rgap_any a0 a1 n m c0 c1 la lb W h.1 h.2.1 (by omega) (by omega)
  have Z1 : Hid (∀ W, TwoSt w a0 a1 n m la lb W → Calls Try.prog 38 #[.slice a0 n c0] W (SameV (.bool (decide (Str.gap la [] < 0))) W)) := Lib.hid fun W h => zero_any a0 n c0 la W h.1
  have Z2 : Hid (∀ W g, TwoSt w a0 a1 n m la lb W → Calls Try.prog 37 #[.slice a0 n c0, .slice (some ⟨g, 0, none⟩) 0 0] W (SameV (.int .i64 (Str.gap la [])) W)) := Lib.hid fun W g h => rgap_any a0 _ n 0 c0 0 la [] W h.1 ⟨rfl, by omega, 0, 0, fun i hi => by omega⟩ (by omega) (by omega)
  generalize Str.gap la lb = gg at G1 G2
  generalize Str.gap la [] = g0 at Z1 Z2
  have h4 : (gg == gg) = true := by simp
  have h5 : (decide (g0 < 0) == decide (g0 < 0)) = true := by simp
  have hor : (¬ (3000 : Int) < k) ∨ ((3000 : Int) < k ∧ ¬ k < 65536) := by omega
  clear h
  rcases hor with h1 | ⟨h1, h2⟩
  all_goals
    go_enter Try.func9, Try.ntmps9
    go_wp2_with fail
    refine (alive_any _).mono ?_
    rintro e w1 ⟨rfl, hB1⟩
    have HST := Lib.hid (show TwoSt w a0 a1 n m la lb w1 from ⟨HA.out.below hB1, HB.out.below hB1, hB1⟩); clear hB1 HA HB
    go_wp2_with fail
    refine (HS.out _).mono ?_
    rintro e w2 ⟨rfl, rfl⟩
    have HST2 := Lib.hid (HST.out.below ((Below.refl _ w1).alloc (Nat.le_refl _) (.cells #[.slice a0 n c0, .slice a1 m c1] 22))); clear HST
    go_wp2_with fail
    refine (xor_any a0 a1 n m c0 c1 la lb _ HST2.out.1 HST2.out.2.1 (by omega) (by omega)).mono ?_
    rintro e w3 ⟨a3, c3, rfl, hO3, hB3⟩
    have HS3 := Lib.hid (HST2.out.below hB3); have HO3 := Lib.hid hO3; clear hO3 hB3 HST2
    go_wp2_with fail
    refine (rxor_any a0 a1 n m c0 c1 la lb _ HS3.out.1 HS3.out.2.1 (by omega) (by omega)).mono ?_
    rintro e w4 ⟨a4, c4, rfl, hO4, hB4⟩
    have HS4 := Lib.hid (HS3.out.below hB4); have HO4 := Lib.hid hO4; have HO3' := Lib.hid (HO3.out.below hB4); clear hO4 hB4 HS3 HO3
    go_wp2_with fail
    refine (same_any a3 a4 (max n m) (max n m) c3 c4 _ _ w4 HO3'.out.bat HO4.out.bat).mono ?_
    rw [decide_eq_true rfl]
    rintro e w5 ⟨rfl, j5, rfl⟩
    have HS5 := Lib.hid (HS4.out.below (below_drewN w4 _ j5)); clear HS4 HO4 HO3'
    go_wp2_with fail
    refine (G1.out _ HS5.out).mono ?_
    rintro e w6 ⟨rfl, rfl⟩
    go_wp2_with fail
    refine (G2.out _ HS5.out).mono ?_
    rintro e w6 ⟨rfl, rfl⟩
    go_wp2_with fail
    refine (Z1.out _ HS5.out).mono ?_
    rintro e w6 ⟨rfl, rfl⟩
    go_wp2_with fail
    have HS6 := Lib.hid (HS5.out.below ((Below.refl _ (w4.drewN j5)).alloc (Nat.le_refl _) (.cells #[] 5)))
    refine (Z2.out _ _ HS6.out).mono ?_
    rintro e w7 ⟨rfl, rfl⟩
    clear HS5
    go_wp2_with fail
    refine (F1.out _ HS6.out).mono ?_
    rintro e w8 ⟨a8, c8, rfl, hO8, hB8⟩
    have HS8 := Lib.hid (HS6.out.below hB8); have HO8 := Lib.hid hO8; clear hO8 hB8 HS6
    go_wp2_with fail
    refine (HHD.out _).mono ?_
    rintro e w9 ⟨rfl, rfl⟩
    go_wp2_with fail
    refine (F2.out _ HS8.out).mono ?_
    rintro e w10 ⟨a10, c10, rfl, hO10, hB10⟩
    have HS10 := Lib.hid (HS8.out.below hB10); have HO10 := Lib.hid hO10; have HO8' := Lib.hid (HO8.out.below hB10); clear hO10 hB10 HS8 HO8
    go_wp2_with fail
    refine (same_any a8 a10 q q c8 c10 _ _ w10 HO8'.out.bat HO10.out.bat).mono ?_
    rw [decide_eq_true rfl]
    rintro e w11 ⟨rfl, j11, rfl⟩
    have HS11 := Lib.hid (HS10.out.below (below_drewN w10 _ j11)); clear HS10 HO10 HO8'
    go_wp2
    go_ret
    exact ⟨rfl, HS11.out.2.2⟩
theorem walk_StripeTwo (a0 : Option Addr) (len0 cap0 : Nat) (z0 : List Int) (a1 : Option Addr) (len1 cap1 : Nat) (z1 : List Int) (a2 : Int) (w : World) (w0 : IntRow .u8 w a0 len0 cap0 z0) (w1 : IntRow .u8 w a1 len1 cap1 z1) (w2 : (Lit.int .i64 a2).wf = true) :
    Calls Try.prog 9 #[.slice a0 len0 cap0, .slice a1 len1 cap1, .int .i64 a2] w (TrueBelow w) := by
  obtain ⟨b0, l0⟩ := w0.bat
  obtain ⟨b1, l1⟩ := w1.bat
  simp [Lit.wf, IntKind.min, IntKind.max, IntKind.bits, IntKind.signed] at w2
  by_cases h : ¬ (len0 ≤ 500 ∧ len1 ≤ 500) ∨ 3000 < a2 ∧ a2 < 65536
  · exact two_out a0 len0 cap0 a1 len1 cap1 a2 w b0.lim b1.lim h
  · exact two_in a0 len0 cap0 a1 len1 cap1 _ _ a2 w b0 b1 (by omega) (by omega) (by omega) (by omega) (by omega)
end Go.Proofs.Ythfiahdeggmmcaa

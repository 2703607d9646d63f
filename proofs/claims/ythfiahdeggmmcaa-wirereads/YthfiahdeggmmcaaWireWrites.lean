/-
  WireWrites' walk.
-/
import Derived.Test.YthfiahdeggmmcaaWireRWrite
namespace Go.Proofs.Ythfiahdeggmmcaa
open Go.RowKit Go.Shelf
set_option linter.unusedVariables false
def WwSt (w : World) (a0 : Option Addr) (n0 : Nat) (ks ns : Nat → Int) (a1 : Option Addr) (n1 : Nat) (xs : Nat → Int) (A : Nat → Option Addr) (L C : Nat → Nat) (bs : Nat → List Int) (W : World) : Prop :=
  StAt W a0 n0 ks ns ∧ GtAt W a1 n1 xs A L C bs ∧ Below w.heap.size w W
theorem WwSt.below {w : World} {a0 : Option Addr} {n0 : Nat} {ks ns : Nat → Int} {a1 : Option Addr} {n1 : Nat} {xs : Nat → Int} {A : Nat → Option Addr} {L C : Nat → Nat} {bs : Nat → List Int} {W W' : World} (h : WwSt w a0 n0 ks ns a1 n1 xs A L C bs W) (hb : Below W.heap.size W W') : WwSt w a0 n0 ks ns a1 n1 xs A L C bs W' :=
  ⟨h.1.below hb, h.2.1.below hb, h.2.2.trans (hb.mono h.2.2.size)⟩
theorem Wr_len (ks xs : Nat → Int) (bs : Nat → List Int) : ∀ m, (∀ i, i < m → (bs i).length ≤ 200) → (Wr ks xs bs m).length ≤ 200 * m
  | 0, _ => by simp [Wr]
  | m + 1, h => by
    have ih := Wr_len ks xs bs m (fun i hi => h i (by omega))
    have := wr1_len (ks m) (xs m) (bs m) (h m (by omega))
    simp only [Wr, List.length_append]
    omega
set_option maxHeartbeats 2000000 in
set_option maxRecDepth 100000 in
theorem writes_any (a0 : Option Addr) (n0 c0 : Nat) (ks ns : Nat → Int) (a1 : Option Addr) (n1 c1 : Nat) (xs : Nat → Int) (A : Nat → Option Addr) (L C : Nat → Nat) (bs : Nat → List Int) (w : World)
    (hs : StAt w a0 n0 ks ns) (hg : GtAt w a1 n1 xs A L C bs) (hn0 : n0 ≤ 9223372036854775807) (hn1 : n1 ≤ 9223372036854775807) :
    Calls Try.prog 5 #[.slice a0 n0 c0, .slice a1 n1 c1] w (TrueBelow w) := by
  have HST := Lib.hid (show WwSt w a0 n0 ks ns a1 n1 xs A L C bs w from ⟨hs, hg, Below.refl _ _⟩); clear hs hg
  by_cases h100 : 100 < n0
  · have h1 : (100 : Int) < (n0 : Int) := by omega
    go_enter Try.func5, Try.ntmps5
    go_wp2_with (go_at_call 10; refine (walive_any _).mono ?_; rintro e w1 ⟨rfl, hB⟩)
    go_ret
    exact ⟨rfl, hB⟩
  · have h1 : ¬ (100 : Int) < (n0 : Int) := by omega
    go_enter Try.func5, Try.ntmps5
    go_wp2_with fail
    refine (walive_any _).mono ?_
    rintro e w1 ⟨rfl, hB⟩
    have HS1 := Lib.hid (HST.out.below hB); clear hB HST
    go_wp2
    go_loop [16] (fun iv => ∃ i : Nat, i ≤ n1 ∧ iv = .int .i64 i ∧ Hid (∀ j, j < i → j < n0 → L j ≤ 200)) (fun iv => n1 - (intOf iv).toNat)
    case atStart => exact ⟨0, Nat.zero_le _, rfl, Lib.hid (fun j hj => by omega)⟩
    case round =>
      obtain ⟨i, hi, rfl, HE⟩ := hrel
      by_cases hlt : i < n1
      · have hltz : (i : Int) < (n1 : Int) := by omega
        by_cases hlt0 : i < n0
        · have hlt0z : (i : Int) < (n0 : Int) := by omega
          obtain ⟨b1, o1, hr1⟩ := HS1.out.2.1
          obtain ⟨rfl, _, _, g1, _⟩ := hr1 i hlt
          clear hr1
          by_cases h200 : 200 < L i
          · generalize L i = z at g1 h200
            have h2z : (200 : Int) < (z : Int) := by omega
            go_wp2
            go_ret
            exact ⟨rfl, HS1.out.2.2⟩
          · have HE' : Hid (∀ j, j < i + 1 → j < n0 → L j ≤ 200) := Lib.hid fun j hj h0 => by
              by_cases e : j = i
              · subst e; omega
              · exact HE.out j (by omega) h0
            generalize L i = z at g1 h200
            have h2z : ¬ (200 : Int) < (z : Int) := by omega
            go_wp2
            go_round
            case rel => exact ⟨i + 1, by omega, by go_num, HE'⟩
            case measure => simp [intOf]; omega
        · have hlt0z : ¬ (i : Int) < (n0 : Int) := by omega
          have HE' : Hid (∀ j, j < i + 1 → j < n0 → L j ≤ 200) := Lib.hid fun j hj h0 => HE.out j (by omega) h0
          go_wp2
          go_round
          case rel => exact ⟨i + 1, by omega, by go_num, HE'⟩
          case measure => simp [intOf]; omega
      · have hltz : ¬ (i : Int) < (n1 : Int) := by omega
        obtain rfl : i = n1 := by omega
        obtain ⟨m, hm⟩ : ∃ m, min n0 i = m := ⟨_, rfl⟩
        obtain ⟨N, hN⟩ : ∃ N, (Wr ks xs bs m).length = N := ⟨_, rfl⟩
        have hN2 : N ≤ 20000 := by
          rw [← hN]
          obtain ⟨b1, o1, hr1⟩ := HS1.out.2.1
          have := Wr_len ks xs bs m (fun j hj => by rw [(hr1 j (by omega)).2.2.2.2.2.2.len]; exact HE.out j (by omega) (by omega))
          omega
        have hLL : ∀ j, j < n0 → j < i → L j ≤ 200 := fun j h0 h1 => HE.out j h1 h0
        have WR : Hid (∀ W, WwSt w a0 n0 ks ns a1 i xs A L C bs W → Calls Try.prog 21 #[.slice a0 n0 c0, .slice a1 i c1] W (WritePost (Wr ks xs bs m) W)) := Lib.hid fun W h => write_any a0 n0 c0 ks ns a1 i c1 xs A L C bs W h.1 h.2.1 (by omega) (by omega) hLL m hm
        have RW : Hid (∀ W, WwSt w a0 n0 ks ns a1 i xs A L C bs W → Calls Try.prog 23 #[.slice a0 n0 c0, .slice a1 i c1] W (NewB N (Wr ks xs bs m) W)) := Lib.hid fun W h => rwrite_any a0 n0 c0 ks ns a1 i c1 xs A L C bs W h.1 h.2.1 (by omega) (by omega) hLL m hm N hN
        have HN := Lib.hid hN
        clear hm hN hLL HE
        generalize Wr ks xs bs m = wl at WR RW HN
        have hnn : ((N : Int) != (N : Int)) = false := by simp
        go_wp2_with fail
        refine (WR.out _ HS1.out).mono ?_
        rintro e w2 ⟨s, rfl, hs, aw, cw, hWr, hBw⟩
        rw [HN.out] at hWr
        have HWR := Lib.hid hWr; have HS2 := Lib.hid (HS1.out.below hBw); clear hWr hBw HS1
        go_wp2_with fail
        refine (wdone_any s w1.heap.size aw N cw wl w2 HWR.out (by omega)).mono ?_
        rintro e w3 ⟨a3, c3, rfl, hO3, hB3⟩
        have HS3 := Lib.hid (HS2.out.below hB3); have HWR3 := Lib.hid (HWR.out.below hB3); have HO3 := Lib.hid hO3; have HB23 := Lib.hid hB3; clear hO3 hB3
        go_wp2_with fail
        refine (RW.out _ HS3.out).mono ?_
        rintro e w4 ⟨a4, c4, rfl, hO4, hB4⟩
        have HS4 := Lib.hid (HS3.out.below hB4); have HWR4 := Lib.hid (HWR3.out.below hB4); have HO3' := Lib.hid (HO3.out.below hB4); have HO4 := Lib.hid hO4; have HB24 := Lib.hid (HB23.out.trans (hB4.mono HB23.out.size)); clear hO4 hB4 HO3
        go_wp2_with fail
        refine (same_any a3 a4 N N c3 c4 wl wl w4 HO3'.out.bat HO4.out.bat).mono ?_
        rw [decide_eq_true rfl]
        rintro e w5 ⟨rfl, j5, rfl⟩
        have HS5 := Lib.hid (HS4.out.below (below_drewN w4 _ j5)); have HWR5 := Lib.hid (HWR4.out.below (below_drewN w4 _ j5)); have HO5 := Lib.hid (HO3'.out.below (below_drewN w4 _ j5)); have HB25 := Lib.hid (HB24.out.trans (below_drewN w4 _ j5))
        clear HS4 HWR4 HO3' HO4
        go_wp2_with fail
        refine (wlen_any s w1.heap.size aw N cw wl _ HWR5.out).mono ?_
        rintro e w6 ⟨rfl, rfl⟩
        go_wp2
        clear HS5 HWR5 HS3 HWR3 HB23 HB24
        go_loopw [53] (fun iv wr => ∃ (j : Nat) (l' : List Int), j ≤ N ∧ iv = .int .i64 j ∧ Hid (Own wr w2.heap.size a3 N c3 l' ∧ Below w2.heap.size w2 wr)) (fun iv _ => N - (intOf iv).toNat)
        case atStart => exact ⟨0, _, Nat.zero_le _, rfl, Lib.hid ⟨HO5.out, HB25.out⟩⟩
        case round =>
          obtain ⟨j, l', hj, rfl, HQ⟩ := hrel
          clear HO5 HB25
          by_cases hlt2 : j < N
          · have hltz2 : (j : Int) < (N : Int) := by omega
            obtain ⟨g, rfl⟩ := HQ.out.1.form (by omega)
            have dR := HQ.out.1.row.cellAt j (by omega)
            have dF := HQ.out.1.row.frozenAt j
            have hlen' := HQ.out.1.len
            rw [List.getElem?_map, List.getElem?_eq_getElem (by omega), Option.map_some] at dR
            have hu : ∀ z : Int, IntKind.u8.wrap z = z % 256 := fun z => by simp [IntKind.wrap, IntKind.bits, IntKind.signed]
            have HU := Lib.hid hu
            generalize l'[j] = x at dR
            clear hu hlen'
            go_wp2
            all_goals
              go_roundw
              case rel =>
                refine ⟨j + 1, l'.set j _, by omega, by go_num, Lib.hid ⟨HQ.out.1.set j _ ?_, HQ.out.2.setCell (by have := (HQ.out.1.blk _ rfl).1; exact this) _⟩⟩
                first
                  | (rw [HU.out]; omega)
                  | omega
              case measure => simp [intOf]; omega
          · have hltz2 : ¬ (j : Int) < (N : Int) := by omega
            have HS6 := Lib.hid (HS2.out.below HQ.out.2); have HWR6 := Lib.hid (HWR.out.below HQ.out.2)
            clear HQ HS2 HWR
            go_wp2_with fail
            refine (wdone_any s w1.heap.size aw N cw wl wr HWR6.out (by omega)).mono ?_
            rintro e w7 ⟨a7, c7, rfl, hO7, hB7⟩
            have HS7 := Lib.hid (HS6.out.below hB7); have HO7 := Lib.hid hO7; clear hO7 hB7 HS6 HWR6
            go_wp2_with fail
            refine (RW.out _ HS7.out).mono ?_
            rintro e w8 ⟨a8, c8, rfl, hO8, hB8⟩
            have HS8 := Lib.hid (HS7.out.below hB8); have HO8 := Lib.hid hO8; have HO7' := Lib.hid (HO7.out.below hB8); clear hO8 hB8 HS7 HO7
            go_wp2_with fail
            refine (same_any a7 a8 N N c7 c8 wl wl w8 HO7'.out.bat HO8.out.bat).mono ?_
            rw [decide_eq_true rfl]
            rintro e w9 ⟨rfl, j9, rfl⟩
            go_wp2
            go_ret
            exact ⟨rfl, HS8.out.2.2.trans (below_drewN w8 _ j9)⟩
/-- A slice of steps, a slice of gots, as they come in. -/
def StIn (w : World) (a : Option Addr) (len cap : Nat) (ks ns : Nat → Int) : Prop :=
  (a = none ∧ len = 0 ∧ cap = 0) ∨ ∃ x, a = some x ∧ len ≤ cap ∧ cap ≤ maxLen ∧ ∀ i, i < cap → w.cell? (x.add (i * 2)) = some (.int .i64 (ks i)) ∧ w.cell? (x.add (i * 2 + 1)) = some (.int .i64 (ns i))
theorem add_none {b o k : Nat} : (Addr.add ⟨b, o, none⟩ k) = ⟨b, o + k, none⟩ := by unfold Addr.add; split <;> simp_all
theorem StIn.at {w : World} {a : Option Addr} {len cap : Nat} {ks ns : Nat → Int} (h : StIn w a len cap ks ns) : StAt w a len ks ns ∧ len ≤ maxLen := by
  rcases h with ⟨rfl, rfl, rfl⟩ | ⟨⟨b, o, sp⟩, rfl, hl, hm, hr⟩
  · exact ⟨⟨0, 0, fun i hi => by omega⟩, Nat.zero_le _⟩
  · refine ⟨⟨b, o, fun i hi => ?_⟩, by omega⟩
    have hs : sp = none := by have := World.cell?_spot (hr 0 (by omega)).1; simpa [Addr.add] using this
    subst hs
    obtain ⟨h1, h2⟩ := hr i (by omega)
    rw [add_none] at h1 h2
    exact ⟨rfl, World.block_lt_of_cell? w _ h1, h1, by rw [Nat.add_assoc]; exact h2⟩
def GtIn (w : World) (a : Option Addr) (len cap : Nat) (xs : Nat → Int) (A : Nat → Option Addr) (L C : Nat → Nat) (Z : Nat → List Int) : Prop :=
  (a = none ∧ len = 0 ∧ cap = 0) ∨ ∃ x, a = some x ∧ len ≤ cap ∧ cap ≤ maxLen ∧ ∀ i, i < cap → w.cell? (x.add (i * 2)) = some (.int .u64 (xs i)) ∧ (Lit.int .u64 (xs i)).wf = true ∧ w.cell? (x.add (i * 2 + 1)) = some (.slice (A i) (L i) (C i)) ∧ IntRow .u8 w (A i) (L i) (C i) (Z i)
theorem GtIn.at {w : World} {a : Option Addr} {len cap : Nat} {xs : Nat → Int} {A : Nat → Option Addr} {L C : Nat → Nat} {Z : Nat → List Int} (h : GtIn w a len cap xs A L C Z) : GtAt w a len xs A L C (fun i => (Z i).take (L i)) ∧ len ≤ maxLen := by
  rcases h with ⟨rfl, rfl, rfl⟩ | ⟨⟨b, o, sp⟩, rfl, hl, hm, hr⟩
  · exact ⟨⟨0, 0, fun i hi => by omega⟩, Nat.zero_le _⟩
  · refine ⟨⟨b, o, fun i hi => ?_⟩, by omega⟩
    have hs : sp = none := by have := World.cell?_spot (hr 0 (by omega)).1; simpa [Addr.add] using this
    subst hs
    obtain ⟨h1, hw, h2, h3⟩ := hr i (by omega)
    rw [add_none] at h1 h2
    simp [Lit.wf, IntKind.min, IntKind.max, IntKind.bits, IntKind.signed] at hw
    exact ⟨rfl, World.block_lt_of_cell? w _ h1, h1, by rw [Nat.add_assoc]; exact h2, by omega, by omega, h3.bat.1⟩
theorem walk_WireWrites (a0 : Option Addr) (len0 cap0 : Nat) (ks0 ns0 : Nat → Int) (a1 : Option Addr) (len1 cap1 : Nat) (xs1 : Nat → Int) (A1 : Nat → Option Addr) (L1 C1 : Nat → Nat) (Z1 : Nat → List Int) (w : World) (w0 : StIn w a0 len0 cap0 ks0 ns0) (w1 : GtIn w a1 len1 cap1 xs1 A1 L1 C1 Z1) :
    Calls Try.prog 5 #[.slice a0 len0 cap0, .slice a1 len1 cap1] w (TrueBelow w) := by
  have h0 := w0.at; have h1 := w1.at
  unfold maxLen at h0 h1
  exact writes_any a0 len0 cap0 ks0 ns0 a1 len1 cap1 xs1 A1 L1 C1 _ w h0.1 h1.1 (by omega) (by omega)
end Go.Proofs.Ythfiahdeggmmcaa

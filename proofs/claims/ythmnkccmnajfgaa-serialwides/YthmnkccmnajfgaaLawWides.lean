/-
  SerialWides' walk.
-/
import Derived.Test.YthmnkccmnajfgaaRefWide
import Derived.Deep.RegionHeld3
namespace Go.Proofs.Ythmnkccmnajfgaa
open Go.RowKit
set_option linter.unusedVariables false
theorem peek_v (b : Nat) (h n v : Int) (w : World) (hc : w.cell? ⟨b, 0, none⟩ = some (.int .i64 h)) (hf : w.frozen? ⟨b, 0, none⟩ = false) (hh : WdOk h) (hn : 0 ≤ n) (hn' : n < 65536) (hv : Hid (Ser.extend h n = v)) :
    Calls Try.prog 21 #[.pointer (some ⟨b, 0, none⟩), .int .u16 n] w (Drawn (.int .i64 v) w) := by
  rw [← hv.out]; exact peek_any b h n w ⟨hc, hf⟩ hh hn hn'
theorem of_v (b : Nat) (h n v h' : Int) (w : World) (hc : w.cell? ⟨b, 0, none⟩ = some (.int .i64 h)) (hf : w.frozen? ⟨b, 0, none⟩ = false) (hh : WdOk h) (hn : 0 ≤ n) (hn' : n < 65536) (hv : Hid (Ser.extend h n = v)) (hh' : Hid (Ser.high h n = h')) :
    Calls Try.prog 22 #[.pointer (some ⟨b, 0, none⟩), .int .u16 n] w (OfPost b v h' w) := of_far b h n v h' w ⟨hc, hf⟩ hh hn hn' hv hh'
set_option maxHeartbeats 1000000 in
theorem walk_SerialWides (a : Option Addr) (len cap : Nat) (zs : List Int) (ask : Int) (w : World) (hr : IntRow .u16 w a len cap zs) (hask : 0 ≤ ask ∧ ask < 65536) :
    Calls Try.prog 4 #[.slice a len cap, .int .u16 ask] w (TrueBelow w) := by
  obtain ⟨b, off, hlen, ha, hc⟩ := hr.open
  obtain ⟨ha1, ha2⟩ := hask
  by_cases h200 : 200 < len
  · have h1 : (200 : Int) < (len : Int) := by omega
    clear hc ha hr
    go_enter Try.func4, Try.ntmps4
    go_wp2_with (go_at_call 9; refine (alive_any _).mono ?_; rintro e w1 ⟨rfl, hB⟩)
    go_ret
    exact ⟨rfl, hB⟩
  · have h1 : ¬ (200 : Int) < (len : Int) := by omega
    have hbd := Wides.hs_bd zs len (fun i hi => wf_u16 (hc i hi).2.2)
    have HC := Lib.hid hc; clear hc
    have HA := Lib.hid ha; clear ha hr
    have HB := Lib.hid hbd; clear hbd
    go_enter Try.func4, Try.ntmps4
    go_wp2_with fail
    refine (alive_any _).mono ?_
    rintro e w1 ⟨rfl, hB⟩
    have hle : w.heap.size ≤ w1.heap.size := hB.size
    have hB1 : Below w.heap.size w (w1.alloc (.cells #[.int .i64 0] 34)) := hB.alloc hle _
    have HB1 := Lib.hid hB1; clear hB hB1
    have hW1 := Wd.alloc w1
    have HW1 := Lib.hid hW1; clear hW1
    have hz1 : w1.heap.size < (w1.alloc (.cells #[.int .i64 0] 34)).heap.size := by simp
    go_wp2_with fail
    generalize w1.alloc (.cells #[.int .i64 0] 34) = w2 at HB1 HW1 hz1 ⊢
    refine (refwide_any a len cap zs w2 b off (by omega) HA.out (fun i hi => ⟨by have := (HC.out i hi).1; omega, (HB1.out.cell (p := ⟨b, off + i, none⟩) (HC.out i hi).1).trans (HC.out i hi).2.1, (HC.out i hi).2.2⟩)).mono ?_
    rintro e w3 ⟨v, rfl, hO, hB3⟩
    have hO3 := Lib.hid hO; clear hO
    have HB3 := Lib.hid (HB1.out.trans (hB3.mono (by omega)))
    have HW3 : Hid (Wd w1.heap.size 0 w3) := Lib.hid ⟨(hB3.cell (p := ⟨w1.heap.size, 0, none⟩) hz1).trans HW1.out.cell, (hB3.frozen (p := ⟨w1.heap.size, 0, none⟩) hz1).trans HW1.out.fro⟩
    have hz3 : w2.heap.size ≤ w3.heap.size := hB3.size
    clear HB1 HW1 hB3
    go_wp2
    go_loopw [7, 19] (fun h i wr => ∃ k : Nat, k ≤ len ∧ i = .int .i64 k ∧ h = .int .i64 (Wides.hs zs k) ∧ Hid (Wd w1.heap.size (Wides.hs zs k) wr) ∧ Hid (wr.ownsRow w2.heap.size 2 1 v len ((Wides.vals zs len).map (Value.int .i64))) ∧ Hid (Below w.heap.size w wr) ∧ w2.heap.size ≤ wr.heap.size) (fun _ i _ => len - (intOf i).toNat)
    case atStart => exact ⟨0, Nat.zero_le _, rfl, rfl, HW3, hO3, HB3, hz3⟩
    case round =>
      clear HW3 hO3 HB3 hz3
      obtain ⟨k, hk, rfl, rfl, HW, HO, HBk, hzk⟩ := hrel
      have hbk := HB.out k hk
      have hok : WdOk (Wides.hs zs k) := by unfold WdOk; omega
      by_cases hlt : k < len
      · obtain ⟨hb, hck, hwf⟩ := HC.out k hlt
        have ck : wr.cell? ⟨b, off + k, none⟩ = some (.int .u16 (zs.getD k 0)) := (HBk.out.cell (p := ⟨b, off + k, none⟩) hb).trans hck
        have hwf := wf_u16 hwf
        obtain rfl := HA.out (by omega)
        obtain ⟨g, cp, rfl⟩ : ∃ g cp, v = .slice (some ⟨g, 0, none⟩) len cp := by
          rcases HO.out.2 with ⟨rfl, hx⟩ | ⟨g, cp, cur, rfl, _⟩
          · omega
          · exact ⟨g, cp, rfl⟩
        have hgb := HO.out.lt g (by simp [Value.ownBlock])
        have hv : wr.cell? ⟨g, k, none⟩ = some (.int .i64 (Wides.val zs k)) := by
          rw [HO.out.cellAt k (by omega), List.getElem?_map, Wides.get zs len k hlt]; rfl
        have eV : Hid (Ser.extend (Wides.hs zs k) (zs.getD k 0) = Wides.val zs k) := Lib.hid rfl
        have eH : Hid (Ser.high (Wides.hs zs k) (zs.getD k 0) = Wides.hs zs (k + 1)) := Lib.hid rfl
        have hmx : Hid (Wides.hs zs (k + 1) = if Wides.hs zs k < Wides.val zs k then Wides.val zs k else Wides.hs zs k) := Lib.hid rfl
        have hnx : (Wides.hs zs (k + 1) != 0) = true := by rw [bne_iff_ne]; have := HB.out (k + 1) (by omega); omega
        generalize Wides.val zs k = V at *
        generalize zs.getD k 0 = z at *
        have hwc := HW.out.cell
        have hwfz := HW.out.fro
        have hne : (some g : Option Nat) ≠ some w1.heap.size := fun h => by injection h with h; omega
        have HNE := Lib.hid hne; clear hne
        obtain ⟨hz1', hz2'⟩ := hwf
        clear hck
        go_wp2_with fail
        refine (peek_v _ _ _ _ _ hwc hwfz hok ha1 ha2 (Lib.hid rfl)).mono ?_
        rintro e w4 ⟨rfl, n4, rfl⟩
        go_wp2_with fail
        have hv4 : (wr.drewN n4).cell? ⟨g, k, none⟩ = some (.int .i64 V) := hv
        have hw4 : (wr.drewN n4).cell? ⟨w1.heap.size, 0, none⟩ = some (.int .i64 (Wides.hs zs k)) := hwc
        have hf4 : (wr.drewN n4).frozen? ⟨w1.heap.size, 0, none⟩ = false := hwfz
        have HB4 : Hid (Below w.heap.size w (wr.drewN n4)) := Lib.hid (HBk.out.grown (grownBy_drewN _ _ none) HBk.out.size (fun k h => by cases h))
        have HO4 : Hid ((wr.drewN n4).ownsRow w2.heap.size 2 1 (.slice (some ⟨g, 0, none⟩) len cp) len ((Wides.vals zs len).map (Value.int .i64))) := Lib.hid (HO.out.kept (grownBy_drewN _ _ none) (.inr (by simp [Value.ownBlock])))
        have hz4 : (wr.drewN n4).heap.size = wr.heap.size := rfl
        have hb4 : w2.heap.size ≤ (wr.drewN n4).heap.size := hzk
        clear hv hwc hwfz HBk HO ck HW hz4
        generalize wr.drewN n4 = w4 at hv4 hw4 hf4 HB4 HO4 hb4 ⊢
        have klz : (k : Int) < (len : Int) := by omega
        go_region_held3 (fun w' => w'.cell? ⟨g, k, none⟩ = some (.int .i64 V)) (first | (simpa [go_sem] using hv4) | (exact hG5.cell (by simpa [go_sem] using hv4) HNE.out))
          (first
            | (go_at_call 21; refine (peek_v _ _ _ V _ (by simpa [go_sem] using hw4) (by simpa [go_sem] using hf4) hok (by omega) (by omega) eV).mono ?_; rintro e w' ⟨rfl, n5, rfl⟩)
            | (go_at_call 22; refine (of_v _ _ _ V _ _ (by simpa [go_sem] using hw4) (by simpa [go_sem] using hf4) hok (by omega) (by omega) eV eH).mono ?_; rintro e w5 ⟨rfl, hW5, hG5, hs5⟩)
            | (go_at_call 23; refine (started_any _ _ _ hW5.cell).mono ?_; rintro e w' ⟨rfl, rfl⟩))
        have hG4 : w4.grownBy w5 (some w1.heap.size) := gb_trans (grownBy_drewN _ _ _) hG5
        have HW5 := Lib.hid hW5
        have HO5 : Hid (w5.ownsRow w2.heap.size 2 1 (.slice (some ⟨g, 0, none⟩) len cp) len ((Wides.vals zs len).map (Value.int .i64))) := Lib.hid (HO4.out.kept hG4 (.inr HNE.out))
        have HB5 : Hid (Below w.heap.size w w5) := Lib.hid (HB4.out.grown hG4 (by omega) (fun j h => by injection h with h; omega))
        have hz5 : w2.heap.size ≤ w5.heap.size := Nat.le_trans hb4 hG4.size
        clear hG4 hG5 hs5 hW5 HO4 HB4
        by_cases hup : Wides.hs zs k < V
        · have hm : Wides.hs zs (k + 1) = V := by rw [hmx.out, if_pos hup]
          go_wp2_with (go_at_call 24; refine (highest_any _ _ _ HW5.out.cell).mono ?_; rintro e w' ⟨rfl, rfl⟩)
          go_roundw
          case rel => exact ⟨k + 1, by omega, by go_num, val_int (by omega), HW5, HO5, HB5, hz5⟩
          case measure => simp [intOf]; omega
        · have hm : Wides.hs zs (k + 1) = Wides.hs zs k := by rw [hmx.out, if_neg hup]
          go_wp2_with (go_at_call 24; refine (highest_any _ _ _ HW5.out.cell).mono ?_; rintro e w' ⟨rfl, rfl⟩)
          go_roundw
          case rel => exact ⟨k + 1, by omega, by go_num, val_int (by omega), HW5, HO5, HB5, hz5⟩
          case measure => simp [intOf]; omega
      · obtain rfl : k = len := by omega
        by_cases h0 : 0 < k
        · have h0z : (0 : Int) < (k : Int) := by omega
          go_wp2
          go_ret
          exact ⟨rfl, HBk.out⟩
        · obtain rfl : k = 0 := by omega
          have hw0 : Hid (Wd w1.heap.size 0 wr) := HW
          go_wp2_with (first
            | (go_at_call 24; refine (highest_any _ _ _ hw0.out.cell).mono ?_; rintro e w' ⟨rfl, rfl⟩)
            | (go_at_call 23; refine (started_any _ _ _ hw0.out.cell).mono ?_; rintro e w' ⟨rfl, rfl⟩))
          go_ret
          exact ⟨rfl, HBk.out⟩
end Go.Proofs.Ythmnkccmnajfgaa

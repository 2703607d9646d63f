
/-
  rtp.Write.
-/
import Derived.Test.YtkoldfoliigifaaRtpEnc
namespace Go.Proofs.Ytkoldfoliigifaa
open Go.RowKit Go.Shelf
set_option linter.unusedVariables false
/-- Bytes and an error: new bytes l. -/
def WrOut (f : Int) (l : List Int) (w : World) (e : Ending) (w' : World) : Prop :=
  ∃ a n c, e = .returned (.tuple #[.slice a n c, .int .i64 f]) ∧ Own w' w.heap.size a n c l ∧ Below w.heap.size w w'
def wcode (p : Pk) (s : Pl) : Int :=
  if p.pt < 0 ∨ 127 < p.pt ∨ vext p s = false ∨ vpad p.pad s.nd = false then 1 else if 15 < s.nc then 3 else if 1500 < sz p s then 2 else 0
def wbytes (p : Pk) (s : Pl) : List Int := if wcode p s = 0 then enc p s else []
theorem WrOut.nil (f : Int) (w w' : World) (hb : Below w.heap.size w w') : WrOut f [] w (.returned (.tuple #[.slice none 0 0, .int .i64 f])) w' :=
  ⟨none, 0, 0, rfl, ⟨World.ownsRow_nil _ _ _ _, Str.ok_nil⟩, hb⟩
set_option maxHeartbeats 4000000 in
set_option maxRecDepth 100000 in
theorem write5_any (p : Pk) (s : Pl) (w : World) (hp : PkAt w p s) (hs : Sm s) :
    Calls Try.prog 6 #[.agg (pkc p s)] w (WrOut (wcode p s) (wbytes p s) w) := by
  have VEXT : Hid (∀ W, Calls Try.prog 19 #[.agg (pkc p s)] W (ValB (.bool (vext p s)) W)) := Lib.hid fun W => vext_any p s W hs
  have VPAD : Hid (∀ W, Below w.heap.size w W → Calls Try.prog 20 #[.slice s.ad s.nd s.cd] W (SameV (.bool (vpad p.pad s.nd)) W)) := Lib.hid fun W hB => vpad_any _ _ _ _ W (hp.pad.below hB)
  have SIZE : Hid (∀ W, Calls Try.prog 9 #[.agg (pkc p s)] W (ValB (.int .i64 (sz p s : Nat)) W)) := Lib.hid fun W => size_any p s W hs
  have ENC : Hid (0 ≤ p.pt ∧ p.pt ≤ 127 → s.nc ≤ 15 → ∀ W, Below w.heap.size w W → Calls Try.prog 21 #[.agg (pkc p s)] W (NewB (sz p s) (enc p s) W)) := Lib.hid fun h1 h2 W hB => encode_any p s W (hp.below hB) hs h1 h2 _ rfl
  clear hp
  have hcode : wcode p s = 1 ∧ (p.pt < 0 ∨ (¬ p.pt < 0 ∧ 127 < p.pt) ∨ (¬ p.pt < 0 ∧ ¬ 127 < p.pt ∧ vext p s = false) ∨ (¬ p.pt < 0 ∧ ¬ 127 < p.pt ∧ vext p s = true ∧ vpad p.pad s.nd = false)) ∨
      (¬ p.pt < 0 ∧ ¬ 127 < p.pt ∧ vext p s = true ∧ vpad p.pad s.nd = true ∧ ((wcode p s = 3 ∧ 15 < s.nc) ∨ (¬ 15 < s.nc ∧ ((wcode p s = 2 ∧ 1500 < sz p s) ∨ (wcode p s = 0 ∧ ¬ 1500 < sz p s))))) := by
    unfold wcode
    by_cases h1 : p.pt < 0
    · left; simp [h1]
    · by_cases h2 : 127 < p.pt
      · left; simp [h1, h2]
      · cases h3 : vext p s
        · left; simp [h1, h2]
        · cases h4 : vpad p.pad s.nd
          · left; simp [h1, h2]
          · right
            by_cases h5 : 15 < s.nc
            · simp [h1, h2, h5]
            · by_cases h6 : 1500 < sz p s
              · simp [h1, h2, h5, h6]
              · simp [h1, h2, h5, h6]
  have hwb : wcode p s ≠ 0 → wbytes p s = [] := fun h => by unfold wbytes; rw [if_neg h]
  have hwe : wcode p s = 0 → wbytes p s = enc p s := fun h => by unfold wbytes; rw [if_pos h]
  have HWB := Lib.hid hwb; have HWE := Lib.hid hwe; clear hwb hwe
  generalize wcode p s = wc at hcode HWB HWE ⊢
  generalize wbytes p s = wb at HWB HWE ⊢
  generalize vext p s = ve at VEXT hcode
  generalize vpad p.pad s.nd = vp at VPAD hcode
  generalize sz p s = n at SIZE ENC hcode
  generalize enc p s = el at ENC HWE
  obtain ⟨m, pt, sq, ts, ss, cs, h, pr, ex, py, pd⟩ := p
  obtain ⟨ac, nc, cc, ae, ne, ce, ap, np, cp, ad, nd, cd⟩ := s
  simp only [pkc] at *
  obtain ⟨w0, hw0⟩ : ∃ w0, w.alloc (.cells #[.bool m, .int .i64 pt, .int .u16 sq, .int .u32 ts, .int .u32 ss, .slice ac nc cc, .bool h, .int .u16 pr, .slice ae ne ce, .slice ap np cp, .slice ad nd cd] 27) = w0 := ⟨_, rfl⟩
  have hz0 : w0.heap.size = w.heap.size + 1 := by rw [← hw0]; simp
  have hB0 : Below w.heap.size w w0 := by rw [← hw0]; exact (Below.refl _ w).alloc (Nat.le_refl _) _
  have hrow : w0.heap[w.heap.size]? = some (.cells #[.bool m, .int .i64 pt, .int .u16 sq, .int .u32 ts, .int .u32 ss, .slice ac nc cc, .bool h, .int .u16 pr, .slice ae ne ce, .slice ap np cp, .slice ad nd cd] 27 (0, 0)) := by rw [← hw0]; exact lit_new rfl
  have CELL : ∀ W, Below w0.heap.size w0 W → W.heap[w.heap.size]? = some (.cells #[.bool m, .int .i64 pt, .int .u16 sq, .int .u32 ts, .int .u32 ss, .slice ac nc cc, .bool h, .int .u16 pr, .slice ae ne ce, .slice ap np cp, .slice ad nd cd] 27 (0, 0)) := fun W hB => (hB.block _ (by omega)).trans hrow
  have HCELL := Lib.hid CELL; have HB0 := Lib.hid hB0; have HW0 := Lib.hid hw0; have HZ0 := Lib.hid hz0
  clear CELL hB0 hz0 hrow hw0
  rcases hcode with ⟨rfl, hc⟩ | ⟨h1, h2, rfl, rfl, hc⟩
  · obtain rfl := HWB.out (by decide)
    clear HWB HWE ENC SIZE
    rcases hc with h1 | ⟨h1, h2⟩ | ⟨h1, h2, rfl⟩ | ⟨h1, h2, rfl, rfl⟩
    · go_enter Try.func6, Try.ntmps6
      go_wp2
      refine bodyPost_ret (v := .tuple #[.slice none 0 0, .int .i64 1]) (by simp [results, Try.results6, go_sem]) rfl ?_
      rw [HW0.out]
      exact WrOut.nil 1 w w0 HB0.out
    · go_enter Try.func6, Try.ntmps6
      go_wp2
      refine bodyPost_ret (v := .tuple #[.slice none 0 0, .int .i64 1]) (by simp [results, Try.results6, go_sem]) rfl ?_
      rw [HW0.out]
      exact WrOut.nil 1 w w0 HB0.out
    · go_enter Try.func6, Try.ntmps6
      go_wp2_with fail
      rw [HW0.out]
      refine (VEXT.out w0).mono ?_
      rintro e w1 ⟨rfl, hB1⟩
      have c10 : w1.cell? ⟨w.heap.size, 10, none⟩ = some (.slice ad nd cd) := by rw [cell_of_row w1 _ 10 _ _ _ (HCELL.out w1 hB1)]; rfl
      have c5 : w1.cell? ⟨w.heap.size, 5, none⟩ = some (.slice ac nc cc) := by rw [cell_of_row w1 _ 5 _ _ _ (HCELL.out w1 hB1)]; rfl
      have HB1 := Lib.hid hB1; have HBW1 := Lib.hid (show Below w.heap.size w w1 from HB0.out.trans (hB1.mono HB0.out.size)); clear hB1
      go_wp2
      refine bodyPost_ret (v := .tuple #[.slice none 0 0, .int .i64 1]) (by simp [results, Try.results6, go_sem]) rfl ?_
      exact WrOut.nil 1 w w1 HBW1.out
    · go_enter Try.func6, Try.ntmps6
      go_wp2_with fail
      rw [HW0.out]
      refine (VEXT.out w0).mono ?_
      rintro e w1 ⟨rfl, hB1⟩
      have c10 : w1.cell? ⟨w.heap.size, 10, none⟩ = some (.slice ad nd cd) := by rw [cell_of_row w1 _ 10 _ _ _ (HCELL.out w1 hB1)]; rfl
      have c5 : w1.cell? ⟨w.heap.size, 5, none⟩ = some (.slice ac nc cc) := by rw [cell_of_row w1 _ 5 _ _ _ (HCELL.out w1 hB1)]; rfl
      have HB1 := Lib.hid hB1; have HBW1 := Lib.hid (show Below w.heap.size w w1 from HB0.out.trans (hB1.mono HB0.out.size)); clear hB1
      go_wp2_with fail
      refine (VPAD.out w1 HBW1.out).mono ?_
      rintro e w2 ⟨rfl, rfl⟩
      go_wp2
      refine bodyPost_ret (v := .tuple #[.slice none 0 0, .int .i64 1]) (by simp [results, Try.results6, go_sem]) rfl ?_
      exact WrOut.nil 1 w w1 HBW1.out
  · rcases hc with ⟨rfl, h5⟩ | ⟨h5, ⟨rfl, h6⟩ | ⟨rfl, h6⟩⟩
    · obtain rfl := HWB.out (by decide)
      have h5z : (15 : Int) < (nc : Int) := by omega
      go_enter Try.func6, Try.ntmps6
      go_wp2_with fail
      rw [HW0.out]
      refine (VEXT.out w0).mono ?_
      rintro e w1 ⟨rfl, hB1⟩
      have c10 : w1.cell? ⟨w.heap.size, 10, none⟩ = some (.slice ad nd cd) := by rw [cell_of_row w1 _ 10 _ _ _ (HCELL.out w1 hB1)]; rfl
      have c5 : w1.cell? ⟨w.heap.size, 5, none⟩ = some (.slice ac nc cc) := by rw [cell_of_row w1 _ 5 _ _ _ (HCELL.out w1 hB1)]; rfl
      have HB1 := Lib.hid hB1; have HBW1 := Lib.hid (show Below w.heap.size w w1 from HB0.out.trans (hB1.mono HB0.out.size)); clear hB1
      go_wp2_with fail
      refine (VPAD.out w1 HBW1.out).mono ?_
      rintro e w2 ⟨rfl, rfl⟩
      go_wp2
      refine bodyPost_ret (v := .tuple #[.slice none 0 0, .int .i64 3]) (by simp [results, Try.results6, go_sem]) rfl ?_
      exact WrOut.nil 3 w w1 HBW1.out
    · obtain rfl := HWB.out (by decide)
      have h5z : ¬ (15 : Int) < (nc : Int) := by omega
      have h6z : (1500 : Int) < (n : Int) := by omega
      go_enter Try.func6, Try.ntmps6
      go_wp2_with fail
      rw [HW0.out]
      refine (VEXT.out w0).mono ?_
      rintro e w1 ⟨rfl, hB1⟩
      have k0 : w1.cell? ⟨w.heap.size, 0, none⟩ = some (.bool m) := by rw [cell_of_row w1 _ 0 _ _ _ (HCELL.out w1 hB1)]; rfl
      have k1 : w1.cell? ⟨w.heap.size, 1, none⟩ = some (.int .i64 pt) := by rw [cell_of_row w1 _ 1 _ _ _ (HCELL.out w1 hB1)]; rfl
      have k2 : w1.cell? ⟨w.heap.size, 2, none⟩ = some (.int .u16 sq) := by rw [cell_of_row w1 _ 2 _ _ _ (HCELL.out w1 hB1)]; rfl
      have k3 : w1.cell? ⟨w.heap.size, 3, none⟩ = some (.int .u32 ts) := by rw [cell_of_row w1 _ 3 _ _ _ (HCELL.out w1 hB1)]; rfl
      have k4 : w1.cell? ⟨w.heap.size, 4, none⟩ = some (.int .u32 ss) := by rw [cell_of_row w1 _ 4 _ _ _ (HCELL.out w1 hB1)]; rfl
      have k5 : w1.cell? ⟨w.heap.size, 5, none⟩ = some (.slice ac nc cc) := by rw [cell_of_row w1 _ 5 _ _ _ (HCELL.out w1 hB1)]; rfl
      have k6 : w1.cell? ⟨w.heap.size, 6, none⟩ = some (.bool h) := by rw [cell_of_row w1 _ 6 _ _ _ (HCELL.out w1 hB1)]; rfl
      have k7 : w1.cell? ⟨w.heap.size, 7, none⟩ = some (.int .u16 pr) := by rw [cell_of_row w1 _ 7 _ _ _ (HCELL.out w1 hB1)]; rfl
      have k8 : w1.cell? ⟨w.heap.size, 8, none⟩ = some (.slice ae ne ce) := by rw [cell_of_row w1 _ 8 _ _ _ (HCELL.out w1 hB1)]; rfl
      have k9 : w1.cell? ⟨w.heap.size, 9, none⟩ = some (.slice ap np cp) := by rw [cell_of_row w1 _ 9 _ _ _ (HCELL.out w1 hB1)]; rfl
      have k10 : w1.cell? ⟨w.heap.size, 10, none⟩ = some (.slice ad nd cd) := by rw [cell_of_row w1 _ 10 _ _ _ (HCELL.out w1 hB1)]; rfl
      have HB1 := Lib.hid hB1; have HBW1 := Lib.hid (show Below w.heap.size w w1 from HB0.out.trans (hB1.mono HB0.out.size)); clear hB1
      go_wp2_with fail
      refine (VPAD.out w1 HBW1.out).mono ?_
      rintro e w2 ⟨rfl, rfl⟩
      go_wp2_with fail
      refine (SIZE.out w1).mono ?_
      rintro e w3 ⟨rfl, hB3⟩
      have HB3 := Lib.hid (HB1.out.trans (hB3.mono HB1.out.size)); have HBW3 := Lib.hid (show Below w.heap.size w w3 from HBW1.out.trans (hB3.mono HBW1.out.size)); clear hB3
      go_wp2
      refine bodyPost_ret (v := .tuple #[.slice none 0 0, .int .i64 2]) (by simp [results, Try.results6, go_sem]) rfl ?_
      exact WrOut.nil 2 w w3 HBW3.out
    · obtain rfl := HWE.out rfl
      have h5z : ¬ (15 : Int) < (nc : Int) := by omega
      have h6z : ¬ (1500 : Int) < (n : Int) := by omega
      have ENC2 := Lib.hid (ENC.out ⟨by omega, by omega⟩ (by omega))
      go_enter Try.func6, Try.ntmps6
      go_wp2_with fail
      rw [HW0.out]
      refine (VEXT.out w0).mono ?_
      rintro e w1 ⟨rfl, hB1⟩
      have k0 : w1.cell? ⟨w.heap.size, 0, none⟩ = some (.bool m) := by rw [cell_of_row w1 _ 0 _ _ _ (HCELL.out w1 hB1)]; rfl
      have k1 : w1.cell? ⟨w.heap.size, 1, none⟩ = some (.int .i64 pt) := by rw [cell_of_row w1 _ 1 _ _ _ (HCELL.out w1 hB1)]; rfl
      have k2 : w1.cell? ⟨w.heap.size, 2, none⟩ = some (.int .u16 sq) := by rw [cell_of_row w1 _ 2 _ _ _ (HCELL.out w1 hB1)]; rfl
      have k3 : w1.cell? ⟨w.heap.size, 3, none⟩ = some (.int .u32 ts) := by rw [cell_of_row w1 _ 3 _ _ _ (HCELL.out w1 hB1)]; rfl
      have k4 : w1.cell? ⟨w.heap.size, 4, none⟩ = some (.int .u32 ss) := by rw [cell_of_row w1 _ 4 _ _ _ (HCELL.out w1 hB1)]; rfl
      have k5 : w1.cell? ⟨w.heap.size, 5, none⟩ = some (.slice ac nc cc) := by rw [cell_of_row w1 _ 5 _ _ _ (HCELL.out w1 hB1)]; rfl
      have k6 : w1.cell? ⟨w.heap.size, 6, none⟩ = some (.bool h) := by rw [cell_of_row w1 _ 6 _ _ _ (HCELL.out w1 hB1)]; rfl
      have k7 : w1.cell? ⟨w.heap.size, 7, none⟩ = some (.int .u16 pr) := by rw [cell_of_row w1 _ 7 _ _ _ (HCELL.out w1 hB1)]; rfl
      have k8 : w1.cell? ⟨w.heap.size, 8, none⟩ = some (.slice ae ne ce) := by rw [cell_of_row w1 _ 8 _ _ _ (HCELL.out w1 hB1)]; rfl
      have k9 : w1.cell? ⟨w.heap.size, 9, none⟩ = some (.slice ap np cp) := by rw [cell_of_row w1 _ 9 _ _ _ (HCELL.out w1 hB1)]; rfl
      have k10 : w1.cell? ⟨w.heap.size, 10, none⟩ = some (.slice ad nd cd) := by rw [cell_of_row w1 _ 10 _ _ _ (HCELL.out w1 hB1)]; rfl
      have HB1 := Lib.hid hB1; have HBW1 := Lib.hid (show Below w.heap.size w w1 from HB0.out.trans (hB1.mono HB0.out.size)); clear hB1
      go_wp2_with fail
      refine (VPAD.out w1 HBW1.out).mono ?_
      rintro e w2 ⟨rfl, rfl⟩
      go_wp2_with fail
      refine (SIZE.out w1).mono ?_
      rintro e w3 ⟨rfl, hB3⟩
      have HB3 := Lib.hid (HB1.out.trans (hB3.mono HB1.out.size)); have HBW3 := Lib.hid (show Below w.heap.size w w3 from HBW1.out.trans (hB3.mono HBW1.out.size)); clear hB3
      clear k0 k1 k2 k3 k4 k5 k6 k7 k8 k9 k10
      have k0 : w3.cell? ⟨w.heap.size, 0, none⟩ = some (.bool m) := by rw [cell_of_row w3 _ 0 _ _ _ (HCELL.out w3 HB3.out)]; rfl
      have k1 : w3.cell? ⟨w.heap.size, 1, none⟩ = some (.int .i64 pt) := by rw [cell_of_row w3 _ 1 _ _ _ (HCELL.out w3 HB3.out)]; rfl
      have k2 : w3.cell? ⟨w.heap.size, 2, none⟩ = some (.int .u16 sq) := by rw [cell_of_row w3 _ 2 _ _ _ (HCELL.out w3 HB3.out)]; rfl
      have k3 : w3.cell? ⟨w.heap.size, 3, none⟩ = some (.int .u32 ts) := by rw [cell_of_row w3 _ 3 _ _ _ (HCELL.out w3 HB3.out)]; rfl
      have k4 : w3.cell? ⟨w.heap.size, 4, none⟩ = some (.int .u32 ss) := by rw [cell_of_row w3 _ 4 _ _ _ (HCELL.out w3 HB3.out)]; rfl
      have k5 : w3.cell? ⟨w.heap.size, 5, none⟩ = some (.slice ac nc cc) := by rw [cell_of_row w3 _ 5 _ _ _ (HCELL.out w3 HB3.out)]; rfl
      have k6 : w3.cell? ⟨w.heap.size, 6, none⟩ = some (.bool h) := by rw [cell_of_row w3 _ 6 _ _ _ (HCELL.out w3 HB3.out)]; rfl
      have k7 : w3.cell? ⟨w.heap.size, 7, none⟩ = some (.int .u16 pr) := by rw [cell_of_row w3 _ 7 _ _ _ (HCELL.out w3 HB3.out)]; rfl
      have k8 : w3.cell? ⟨w.heap.size, 8, none⟩ = some (.slice ae ne ce) := by rw [cell_of_row w3 _ 8 _ _ _ (HCELL.out w3 HB3.out)]; rfl
      have k9 : w3.cell? ⟨w.heap.size, 9, none⟩ = some (.slice ap np cp) := by rw [cell_of_row w3 _ 9 _ _ _ (HCELL.out w3 HB3.out)]; rfl
      have k10 : w3.cell? ⟨w.heap.size, 10, none⟩ = some (.slice ad nd cd) := by rw [cell_of_row w3 _ 10 _ _ _ (HCELL.out w3 HB3.out)]; rfl
      go_wp2_with fail
      refine (ENC2.out w3 HBW3.out).mono ?_
      rintro e w4 ⟨a4, c4, rfl, hO4, hB4⟩
      have HO4 := Lib.hid hO4; have HB4 := Lib.hid hB4; clear hO4 hB4
      go_wp2
      refine bodyPost_ret (v := .tuple #[.slice a4 n c4, .int .i64 0]) (by simp [results, Try.results6, go_sem]) rfl ?_
      exact ⟨a4, n, c4, rfl, HO4.out.mono HBW3.out.size, HBW3.out.trans (HB4.out.mono HBW3.out.size)⟩
end Go.Proofs.Ytkoldfoliigifaa

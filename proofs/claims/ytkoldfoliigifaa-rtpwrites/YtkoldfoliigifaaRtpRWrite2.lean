
/-
  confluxref05.Write, where the packet may not be written; the whole.
-/
import Derived.Test.YtkoldfoliigifaaRtpRWrite
namespace Go.Proofs.Ytkoldfoliigifaa
open Go.RowKit Go.Shelf
set_option linter.unusedVariables false
set_option linter.unusedSimpArgs false
set_option maxHeartbeats 1000000 in
set_option maxRecDepth 100000 in
theorem rwrite5_bad1 (m h : Bool) (pt sq ts ss pr : Int) (ac ae ap ad : Option Addr) (nc cc ne ce np cp nd cd : Nat) (w : World) (hne : ne ≤ 2000)
    (hb : pt < 0 ∨ (¬ pt < 0 ∧ 127 < pt) ∨ (¬ pt < 0 ∧ ¬ 127 < pt ∧ ((h = false ∧ pr ≠ 0) ∨ (h = false ∧ pr = 0 ∧ 0 < ne) ∨ (h = true ∧ ne % 4 ≠ 0) ∨ (h = true ∧ ne % 4 = 0 ∧ 255 < nd) ∨ (h = false ∧ pr = 0 ∧ ne = 0 ∧ 255 < nd)))) :
    Calls Try.prog 7 #[.agg #[.bool m, .int .i64 pt, .int .u16 sq, .int .u32 ts, .int .u32 ss, .slice ac nc cc, .bool h, .int .u16 pr, .slice ae ne ce, .slice ap np cp, .slice ad nd cd]] w (WrOut 1 [] w) := by
  have hW : WrOut 1 [] w (.returned (.tuple #[.slice none 0 0, .int .i64 1])) (w.alloc (.cells #[.bool m, .int .i64 pt, .int .u16 sq, .int .u32 ts, .int .u32 ss, .slice ac nc cc, .bool h, .int .u16 pr, .slice ae ne ce, .slice ap np cp, .slice ad nd cd] 27)) := WrOut.nil 1 w _ ((Below.refl _ w).alloc (Nat.le_refl _) _)
  have HW := Lib.hid hW; clear hW
  have hm4 : ((ne : Int)).tmod 4 = ((ne % 4 : Nat) : Int) := by rw [Int.tmod_eq_emod_of_nonneg (by omega)]; omega
  have hwm : IntKind.i64.wrap ((ne % 4 : Nat) : Int) = ((ne % 4 : Nat) : Int) := by rw [IntKind.wrap_i64]; omega
  have h26 : ¬ (262140 : Int) < (ne : Int) := by omega
  rcases hb with h1 | ⟨h1, h2⟩ | ⟨h1, h2, hb⟩
  · go_enter Try.func7, Try.ntmps7
    go_wp2_with fail
    exact bodyPost_ret (v := .tuple #[.slice none 0 0, .int .i64 1]) (by simp [results, Try.results7, go_sem]) rfl (HW.out)
  · go_enter Try.func7, Try.ntmps7
    go_wp2_with fail
    exact bodyPost_ret (v := .tuple #[.slice none 0 0, .int .i64 1]) (by simp [results, Try.results7, go_sem]) rfl (HW.out)
  rcases hb with ⟨rfl, h3⟩ | ⟨rfl, rfl, h3⟩ | ⟨rfl, h3⟩ | ⟨rfl, h3, h4⟩ | ⟨rfl, rfl, rfl, h4⟩
  · have h5 : (pr != 0) = true := by simpa using h3
    go_enter Try.func7, Try.ntmps7
    go_wp2_with fail
    exact bodyPost_ret (v := .tuple #[.slice none 0 0, .int .i64 1]) (by simp [results, Try.results7, go_sem]) rfl (HW.out)
  · have h5 : (0 : Int) < (ne : Int) := by omega
    go_enter Try.func7, Try.ntmps7
    go_wp2_with fail
    exact bodyPost_ret (v := .tuple #[.slice none 0 0, .int .i64 1]) (by simp [results, Try.results7, go_sem]) rfl (HW.out)
  · have h5 : (((ne % 4 : Nat) : Int) != 0) = true := by simp only [bne_iff_ne, ne_eq]; omega
    generalize ne % 4 = r4 at *
    go_enter Try.func7, Try.ntmps7
    go_wp2_with fail
    exact bodyPost_ret (v := .tuple #[.slice none 0 0, .int .i64 1]) (by simp [results, Try.results7, go_sem]) rfl (HW.out)
  · have h5 : (((ne % 4 : Nat) : Int) != 0) = false := by simp [h3]
    have h6 : (255 : Int) < (nd : Int) := by omega
    generalize ne % 4 = r4 at *
    go_enter Try.func7, Try.ntmps7
    go_wp2_with fail
    exact bodyPost_ret (v := .tuple #[.slice none 0 0, .int .i64 1]) (by simp [results, Try.results7, go_sem]) rfl (HW.out)
  · have h6 : (255 : Int) < (nd : Int) := by omega
    go_enter Try.func7, Try.ntmps7
    go_wp2_with fail
    exact bodyPost_ret (v := .tuple #[.slice none 0 0, .int .i64 1]) (by simp [results, Try.results7, go_sem]) rfl (HW.out)
set_option maxHeartbeats 1000000 in
set_option maxRecDepth 100000 in
theorem rwrite5_bad2 (m h : Bool) (pt sq ts ss pr : Int) (ac ae ap ad : Option Addr) (nc cc ne ce np cp nd cd : Nat) (pd : List Int) (w : World) (hne : ne ≤ 2000) (h1 : ¬ pt < 0) (h2 : ¬ 127 < pt) (hx : (h = false ∧ pr = 0 ∧ ne = 0) ∨ (h = true ∧ ne % 4 = 0)) (hd : nd ≤ 255) (hpd : BAt w ad nd pd) (h0 : 0 < nd) (hl : pd.getD (nd - 1) 0 ≠ nd) :
    Calls Try.prog 7 #[.agg #[.bool m, .int .i64 pt, .int .u16 sq, .int .u32 ts, .int .u32 ss, .slice ac nc cc, .bool h, .int .u16 pr, .slice ae ne ce, .slice ap np cp, .slice ad nd cd]] w (WrOut 1 [] w) := by
  obtain ⟨w0, hw0⟩ : ∃ w0, w.alloc (.cells #[.bool m, .int .i64 pt, .int .u16 sq, .int .u32 ts, .int .u32 ss, .slice ac nc cc, .bool h, .int .u16 pr, .slice ae ne ce, .slice ap np cp, .slice ad nd cd] 27) = w0 := ⟨_, rfl⟩
  have hB0 : Below w.heap.size w w0 := by rw [← hw0]; exact (Below.refl _ w).alloc (Nat.le_refl _) _
  have hr0 : w0.heap[w.heap.size]? = some (.cells #[.bool m, .int .i64 pt, .int .u16 sq, .int .u32 ts, .int .u32 ss, .slice ac nc cc, .bool h, .int .u16 pr, .slice ae ne ce, .slice ap np cp, .slice ad nd cd] 27 (0, 0)) := by rw [← hw0]; exact lit_new rfl
  have HW0 := Lib.hid hw0; have HB0 := Lib.hid hB0
  have h26 : ¬ (262140 : Int) < (ne : Int) := by omega
  have h25 : ¬ (255 : Int) < (nd : Int) := by omega
  have h9 : (0 : Int) < (nd : Int) := by omega
  have hi : IntKind.i64.wrap ((nd : Int) - 1) = ((nd - 1 : Nat) : Int) := by rw [IntKind.wrap_i64]; omega
  have hi' : (nd : Int) - 1 = ((nd - 1 : Nat) : Int) := by omega
  have hi0 : (0 : Int) ≤ ((nd - 1 : Nat) : Int) := by omega
  have hi2 : ((nd - 1 : Nat) : Int) < (nd : Int) := by omega
  have hw : IntKind.i64.wrap (nd : Int) = (nd : Int) := by rw [IntKind.wrap_i64]; omega
  obtain ⟨pb, po, hr⟩ := (hpd.below hB0).row
  obtain ⟨rfl, hbl, g0, _⟩ := hr (nd - 1) (by omega)
  have hlb := hpd.ok (nd - 1)
  obtain ⟨v, hv⟩ : ∃ v, pd.getD (nd - 1) 0 = v := ⟨_, rfl⟩
  rw [hv] at g0 hl hlb
  have hvn : (v != (nd : Int)) = true := by simpa using hl
  have hwv : IntKind.i64.wrap v = v := by rw [IntKind.wrap_i64]; omega
  have hW : Hid (∀ k, WrOut 1 [] w (.returned (.tuple #[.slice none 0 0, .int .i64 1])) (w0.drewN k)) := Lib.hid fun k => WrOut.nil 1 w _ (HB0.out.trans (below_drewN w0 _ k))
  clear hr hv hw0 hB0 hpd hl
  rcases hx with ⟨rfl, rfl, rfl⟩ | ⟨rfl, h4⟩
  · have d0 : w0.cell? ⟨w.heap.size, 0, none⟩ = some (.bool m) := by rw [cell_of_row _ _ 0 _ _ _ (hr0)]; rfl
    have d1 : w0.cell? ⟨w.heap.size, 1, none⟩ = some (.int .i64 pt) := by rw [cell_of_row _ _ 1 _ _ _ (hr0)]; rfl
    have d2 : w0.cell? ⟨w.heap.size, 2, none⟩ = some (.int .u16 sq) := by rw [cell_of_row _ _ 2 _ _ _ (hr0)]; rfl
    have d3 : w0.cell? ⟨w.heap.size, 3, none⟩ = some (.int .u32 ts) := by rw [cell_of_row _ _ 3 _ _ _ (hr0)]; rfl
    have d4 : w0.cell? ⟨w.heap.size, 4, none⟩ = some (.int .u32 ss) := by rw [cell_of_row _ _ 4 _ _ _ (hr0)]; rfl
    have d5 : w0.cell? ⟨w.heap.size, 5, none⟩ = some (.slice ac nc cc) := by rw [cell_of_row _ _ 5 _ _ _ (hr0)]; rfl
    have d6 : w0.cell? ⟨w.heap.size, 6, none⟩ = some (.bool false) := by rw [cell_of_row _ _ 6 _ _ _ (hr0)]; rfl
    have d7 : w0.cell? ⟨w.heap.size, 7, none⟩ = some (.int .u16 0) := by rw [cell_of_row _ _ 7 _ _ _ (hr0)]; rfl
    have d8 : w0.cell? ⟨w.heap.size, 8, none⟩ = some (.slice ae 0 ce) := by rw [cell_of_row _ _ 8 _ _ _ (hr0)]; rfl
    have d9 : w0.cell? ⟨w.heap.size, 9, none⟩ = some (.slice ap np cp) := by rw [cell_of_row _ _ 9 _ _ _ (hr0)]; rfl
    have d10 : w0.cell? ⟨w.heap.size, 10, none⟩ = some (.slice (some ⟨pb, po, none⟩) nd cd) := by rw [cell_of_row _ _ 10 _ _ _ (hr0)]; rfl
    clear hr0
    generalize nd - 1 = kd at *
    go_enter Try.func7, Try.ntmps7
    go_upto_region 1 with (fail)
    rw [HW0.out]
    go_upto_region 3 with (fail)
    go_quiet (fail)
    go_wp2_with fail
    exact bodyPost_ret (v := .tuple #[.slice none 0 0, .int .i64 1]) (by simp [results, Try.results7, go_sem]) rfl (hW.out _)
  · have er : ((ne : Int)).tmod 4 = 0 := by rw [Int.tmod_eq_emod_of_nonneg (by omega)]; omega
    clear h4
    have d0 : w0.cell? ⟨w.heap.size, 0, none⟩ = some (.bool m) := by rw [cell_of_row _ _ 0 _ _ _ (hr0)]; rfl
    have d1 : w0.cell? ⟨w.heap.size, 1, none⟩ = some (.int .i64 pt) := by rw [cell_of_row _ _ 1 _ _ _ (hr0)]; rfl
    have d2 : w0.cell? ⟨w.heap.size, 2, none⟩ = some (.int .u16 sq) := by rw [cell_of_row _ _ 2 _ _ _ (hr0)]; rfl
    have d3 : w0.cell? ⟨w.heap.size, 3, none⟩ = some (.int .u32 ts) := by rw [cell_of_row _ _ 3 _ _ _ (hr0)]; rfl
    have d4 : w0.cell? ⟨w.heap.size, 4, none⟩ = some (.int .u32 ss) := by rw [cell_of_row _ _ 4 _ _ _ (hr0)]; rfl
    have d5 : w0.cell? ⟨w.heap.size, 5, none⟩ = some (.slice ac nc cc) := by rw [cell_of_row _ _ 5 _ _ _ (hr0)]; rfl
    have d6 : w0.cell? ⟨w.heap.size, 6, none⟩ = some (.bool true) := by rw [cell_of_row _ _ 6 _ _ _ (hr0)]; rfl
    have d7 : w0.cell? ⟨w.heap.size, 7, none⟩ = some (.int .u16 pr) := by rw [cell_of_row _ _ 7 _ _ _ (hr0)]; rfl
    have d8 : w0.cell? ⟨w.heap.size, 8, none⟩ = some (.slice ae ne ce) := by rw [cell_of_row _ _ 8 _ _ _ (hr0)]; rfl
    have d9 : w0.cell? ⟨w.heap.size, 9, none⟩ = some (.slice ap np cp) := by rw [cell_of_row _ _ 9 _ _ _ (hr0)]; rfl
    have d10 : w0.cell? ⟨w.heap.size, 10, none⟩ = some (.slice (some ⟨pb, po, none⟩) nd cd) := by rw [cell_of_row _ _ 10 _ _ _ (hr0)]; rfl
    clear hr0
    generalize nd - 1 = kd at *
    go_enter Try.func7, Try.ntmps7
    go_upto_region 1 with (fail)
    rw [HW0.out]
    go_upto_region 3 with (fail)
    go_quiet (fail)
    go_wp2_with fail
    exact bodyPost_ret (v := .tuple #[.slice none 0 0, .int .i64 1]) (by simp [results, Try.results7, go_sem]) rfl (hW.out _)
set_option maxHeartbeats 2000000 in
set_option maxRecDepth 100000 in
theorem rwrite5_bad3 (m h : Bool) (pt sq ts ss pr : Int) (ac ae ap ad : Option Addr) (nc cc ne ce np cp nd cd : Nat) (pd : List Int) (w : World) (zz : Nat) (hne : ne ≤ 2000) (h1 : ¬ pt < 0) (h2 : ¬ 127 < pt) (hx : (h = false ∧ pr = 0 ∧ ne = 0) ∨ (h = true ∧ ne % 4 = 0)) (hd : nd ≤ 255) (hpd : BAt w ad nd pd) (hl : nd = 0 ∨ pd.getD (nd - 1) 0 = nd)
    (HSIZE : Hid (∀ W, Calls Try.prog 10 #[.agg #[.bool m, .int .i64 pt, .int .u16 sq, .int .u32 ts, .int .u32 ss, .slice ac nc cc, .bool h, .int .u16 pr, .slice ae ne ce, .slice ap np cp, .slice ad nd cd]] W (ValB (.int .i64 (zz : Nat)) W))) (f : Int) (hf : (f = 3 ∧ 15 < nc) ∨ (f = 2 ∧ ¬ 15 < nc ∧ 1500 < zz)) :
    Calls Try.prog 7 #[.agg #[.bool m, .int .i64 pt, .int .u16 sq, .int .u32 ts, .int .u32 ss, .slice ac nc cc, .bool h, .int .u16 pr, .slice ae ne ce, .slice ap np cp, .slice ad nd cd]] w (WrOut f [] w) := by
  obtain ⟨w0, hw0⟩ : ∃ w0, w.alloc (.cells #[.bool m, .int .i64 pt, .int .u16 sq, .int .u32 ts, .int .u32 ss, .slice ac nc cc, .bool h, .int .u16 pr, .slice ae ne ce, .slice ap np cp, .slice ad nd cd] 27) = w0 := ⟨_, rfl⟩
  have hB0 : Below w.heap.size w w0 := by rw [← hw0]; exact (Below.refl _ w).alloc (Nat.le_refl _) _
  have hr0 : w0.heap[w.heap.size]? = some (.cells #[.bool m, .int .i64 pt, .int .u16 sq, .int .u32 ts, .int .u32 ss, .slice ac nc cc, .bool h, .int .u16 pr, .slice ae ne ce, .slice ap np cp, .slice ad nd cd] 27 (0, 0)) := by rw [← hw0]; exact lit_new rfl
  have HW0 := Lib.hid hw0; have HB0 := Lib.hid hB0
  have h26 : ¬ (262140 : Int) < (ne : Int) := by omega
  have h25 : ¬ (255 : Int) < (nd : Int) := by omega
  have HBX : Hid (∀ k, (w0.drewN k).heap[w.heap.size]? = some (.cells #[.bool m, .int .i64 pt, .int .u16 sq, .int .u32 ts, .int .u32 ss, .slice ac nc cc, .bool h, .int .u16 pr, .slice ae ne ce, .slice ap np cp, .slice ad nd cd] 27 (0, 0))) := Lib.hid fun k => hr0
  have HBD : Hid (∀ k, Below w.heap.size w (w0.drewN k)) := Lib.hid fun k => HB0.out.trans (below_drewN w0 _ k)
  obtain ⟨Post, hPost⟩ : ∃ Post, WrOut f [] w = Post := ⟨_, rfl⟩
  rw [hPost]
  have HP : Hid (∀ W, Below w.heap.size w W → Post (.returned (.tuple #[.slice none 0 0, .int .i64 f])) W) := Lib.hid fun W hW => by rw [← hPost]; exact WrOut.nil f w W hW
  clear hw0 hPost
  have hcase : (f = 3 ∧ (15 : Int) < (nc : Int)) ∨ (f = 2 ∧ ¬ (15 : Int) < (nc : Int) ∧ (1500 : Int) < (zz : Int)) := by
    rcases hf with ⟨a, b⟩ | ⟨a, b, c⟩
    · exact .inl ⟨a, by omega⟩
    · exact .inr ⟨a, by omega, by omega⟩
  clear hf
  by_cases hn0 : nd = 0
  · subst hn0
    rcases hx with ⟨rfl, rfl, rfl⟩ | ⟨rfl, h4⟩
    · have d0 : w0.cell? ⟨w.heap.size, 0, none⟩ = some (.bool m) := by rw [cell_of_row _ _ 0 _ _ _ (hr0)]; rfl
      have d1 : w0.cell? ⟨w.heap.size, 1, none⟩ = some (.int .i64 pt) := by rw [cell_of_row _ _ 1 _ _ _ (hr0)]; rfl
      have d2 : w0.cell? ⟨w.heap.size, 2, none⟩ = some (.int .u16 sq) := by rw [cell_of_row _ _ 2 _ _ _ (hr0)]; rfl
      have d3 : w0.cell? ⟨w.heap.size, 3, none⟩ = some (.int .u32 ts) := by rw [cell_of_row _ _ 3 _ _ _ (hr0)]; rfl
      have d4 : w0.cell? ⟨w.heap.size, 4, none⟩ = some (.int .u32 ss) := by rw [cell_of_row _ _ 4 _ _ _ (hr0)]; rfl
      have d5 : w0.cell? ⟨w.heap.size, 5, none⟩ = some (.slice ac nc cc) := by rw [cell_of_row _ _ 5 _ _ _ (hr0)]; rfl
      have d6 : w0.cell? ⟨w.heap.size, 6, none⟩ = some (.bool false) := by rw [cell_of_row _ _ 6 _ _ _ (hr0)]; rfl
      have d7 : w0.cell? ⟨w.heap.size, 7, none⟩ = some (.int .u16 0) := by rw [cell_of_row _ _ 7 _ _ _ (hr0)]; rfl
      have d8 : w0.cell? ⟨w.heap.size, 8, none⟩ = some (.slice ae 0 ce) := by rw [cell_of_row _ _ 8 _ _ _ (hr0)]; rfl
      have d9 : w0.cell? ⟨w.heap.size, 9, none⟩ = some (.slice ap np cp) := by rw [cell_of_row _ _ 9 _ _ _ (hr0)]; rfl
      have d10 : w0.cell? ⟨w.heap.size, 10, none⟩ = some (.slice ad 0 cd) := by rw [cell_of_row _ _ 10 _ _ _ (hr0)]; rfl
      clear hr0
      rcases hcase with ⟨rfl, h7⟩ | ⟨rfl, h7, h8⟩
      · go_enter Try.func7, Try.ntmps7
        go_upto_region 1 with (fail)
        rw [HW0.out]
        go_upto_region 3 with (fail)
        go_quiet (fail)
        clear d0 d1 d2 d3 d4 d5 d6 d7 d8 d9 d10
        have d0 : (w0.drewN nq).cell? ⟨w.heap.size, 0, none⟩ = some (.bool m) := by rw [cell_of_row _ _ 0 _ _ _ (HBX.out nq)]; rfl
        have d1 : (w0.drewN nq).cell? ⟨w.heap.size, 1, none⟩ = some (.int .i64 pt) := by rw [cell_of_row _ _ 1 _ _ _ (HBX.out nq)]; rfl
        have d2 : (w0.drewN nq).cell? ⟨w.heap.size, 2, none⟩ = some (.int .u16 sq) := by rw [cell_of_row _ _ 2 _ _ _ (HBX.out nq)]; rfl
        have d3 : (w0.drewN nq).cell? ⟨w.heap.size, 3, none⟩ = some (.int .u32 ts) := by rw [cell_of_row _ _ 3 _ _ _ (HBX.out nq)]; rfl
        have d4 : (w0.drewN nq).cell? ⟨w.heap.size, 4, none⟩ = some (.int .u32 ss) := by rw [cell_of_row _ _ 4 _ _ _ (HBX.out nq)]; rfl
        have d5 : (w0.drewN nq).cell? ⟨w.heap.size, 5, none⟩ = some (.slice ac nc cc) := by rw [cell_of_row _ _ 5 _ _ _ (HBX.out nq)]; rfl
        have d6 : (w0.drewN nq).cell? ⟨w.heap.size, 6, none⟩ = some (.bool false) := by rw [cell_of_row _ _ 6 _ _ _ (HBX.out nq)]; rfl
        have d7 : (w0.drewN nq).cell? ⟨w.heap.size, 7, none⟩ = some (.int .u16 0) := by rw [cell_of_row _ _ 7 _ _ _ (HBX.out nq)]; rfl
        have d8 : (w0.drewN nq).cell? ⟨w.heap.size, 8, none⟩ = some (.slice ae 0 ce) := by rw [cell_of_row _ _ 8 _ _ _ (HBX.out nq)]; rfl
        have d9 : (w0.drewN nq).cell? ⟨w.heap.size, 9, none⟩ = some (.slice ap np cp) := by rw [cell_of_row _ _ 9 _ _ _ (HBX.out nq)]; rfl
        have d10 : (w0.drewN nq).cell? ⟨w.heap.size, 10, none⟩ = some (.slice ad 0 cd) := by rw [cell_of_row _ _ 10 _ _ _ (HBX.out nq)]; rfl
        go_wp2_with fail
        exact HP.out _ (HBD.out nq)
      · go_enter Try.func7, Try.ntmps7
        go_upto_region 1 with (fail)
        rw [HW0.out]
        go_upto_region 3 with (fail)
        go_quiet (fail)
        clear d0 d1 d2 d3 d4 d5 d6 d7 d8 d9 d10
        have d0 : (w0.drewN nq).cell? ⟨w.heap.size, 0, none⟩ = some (.bool m) := by rw [cell_of_row _ _ 0 _ _ _ (HBX.out nq)]; rfl
        have d1 : (w0.drewN nq).cell? ⟨w.heap.size, 1, none⟩ = some (.int .i64 pt) := by rw [cell_of_row _ _ 1 _ _ _ (HBX.out nq)]; rfl
        have d2 : (w0.drewN nq).cell? ⟨w.heap.size, 2, none⟩ = some (.int .u16 sq) := by rw [cell_of_row _ _ 2 _ _ _ (HBX.out nq)]; rfl
        have d3 : (w0.drewN nq).cell? ⟨w.heap.size, 3, none⟩ = some (.int .u32 ts) := by rw [cell_of_row _ _ 3 _ _ _ (HBX.out nq)]; rfl
        have d4 : (w0.drewN nq).cell? ⟨w.heap.size, 4, none⟩ = some (.int .u32 ss) := by rw [cell_of_row _ _ 4 _ _ _ (HBX.out nq)]; rfl
        have d5 : (w0.drewN nq).cell? ⟨w.heap.size, 5, none⟩ = some (.slice ac nc cc) := by rw [cell_of_row _ _ 5 _ _ _ (HBX.out nq)]; rfl
        have d6 : (w0.drewN nq).cell? ⟨w.heap.size, 6, none⟩ = some (.bool false) := by rw [cell_of_row _ _ 6 _ _ _ (HBX.out nq)]; rfl
        have d7 : (w0.drewN nq).cell? ⟨w.heap.size, 7, none⟩ = some (.int .u16 0) := by rw [cell_of_row _ _ 7 _ _ _ (HBX.out nq)]; rfl
        have d8 : (w0.drewN nq).cell? ⟨w.heap.size, 8, none⟩ = some (.slice ae 0 ce) := by rw [cell_of_row _ _ 8 _ _ _ (HBX.out nq)]; rfl
        have d9 : (w0.drewN nq).cell? ⟨w.heap.size, 9, none⟩ = some (.slice ap np cp) := by rw [cell_of_row _ _ 9 _ _ _ (HBX.out nq)]; rfl
        have d10 : (w0.drewN nq).cell? ⟨w.heap.size, 10, none⟩ = some (.slice ad 0 cd) := by rw [cell_of_row _ _ 10 _ _ _ (HBX.out nq)]; rfl
        go_wp2_with fail
        refine (HSIZE.out _).mono ?_
        rintro e w3 ⟨rfl, hB3⟩
        have HB3 := Lib.hid ((HBD.out nq).trans (hB3.mono (HBD.out nq).size))
        clear hB3 d0 d1 d2 d3 d4 d5 d6 d7 d8 d9 d10
        go_wp2_with fail
        exact HP.out _ HB3.out
    · have er : ((ne : Int)).tmod 4 = 0 := by rw [Int.tmod_eq_emod_of_nonneg (by omega)]; omega
      clear h4
      have d0 : w0.cell? ⟨w.heap.size, 0, none⟩ = some (.bool m) := by rw [cell_of_row _ _ 0 _ _ _ (hr0)]; rfl
      have d1 : w0.cell? ⟨w.heap.size, 1, none⟩ = some (.int .i64 pt) := by rw [cell_of_row _ _ 1 _ _ _ (hr0)]; rfl
      have d2 : w0.cell? ⟨w.heap.size, 2, none⟩ = some (.int .u16 sq) := by rw [cell_of_row _ _ 2 _ _ _ (hr0)]; rfl
      have d3 : w0.cell? ⟨w.heap.size, 3, none⟩ = some (.int .u32 ts) := by rw [cell_of_row _ _ 3 _ _ _ (hr0)]; rfl
      have d4 : w0.cell? ⟨w.heap.size, 4, none⟩ = some (.int .u32 ss) := by rw [cell_of_row _ _ 4 _ _ _ (hr0)]; rfl
      have d5 : w0.cell? ⟨w.heap.size, 5, none⟩ = some (.slice ac nc cc) := by rw [cell_of_row _ _ 5 _ _ _ (hr0)]; rfl
      have d6 : w0.cell? ⟨w.heap.size, 6, none⟩ = some (.bool true) := by rw [cell_of_row _ _ 6 _ _ _ (hr0)]; rfl
      have d7 : w0.cell? ⟨w.heap.size, 7, none⟩ = some (.int .u16 pr) := by rw [cell_of_row _ _ 7 _ _ _ (hr0)]; rfl
      have d8 : w0.cell? ⟨w.heap.size, 8, none⟩ = some (.slice ae ne ce) := by rw [cell_of_row _ _ 8 _ _ _ (hr0)]; rfl
      have d9 : w0.cell? ⟨w.heap.size, 9, none⟩ = some (.slice ap np cp) := by rw [cell_of_row _ _ 9 _ _ _ (hr0)]; rfl
      have d10 : w0.cell? ⟨w.heap.size, 10, none⟩ = some (.slice ad 0 cd) := by rw [cell_of_row _ _ 10 _ _ _ (hr0)]; rfl
      clear hr0
      rcases hcase with ⟨rfl, h7⟩ | ⟨rfl, h7, h8⟩
      · go_enter Try.func7, Try.ntmps7
        go_upto_region 1 with (fail)
        rw [HW0.out]
        go_upto_region 3 with (fail)
        go_quiet (fail)
        clear d0 d1 d2 d3 d4 d5 d6 d7 d8 d9 d10
        have d0 : (w0.drewN nq).cell? ⟨w.heap.size, 0, none⟩ = some (.bool m) := by rw [cell_of_row _ _ 0 _ _ _ (HBX.out nq)]; rfl
        have d1 : (w0.drewN nq).cell? ⟨w.heap.size, 1, none⟩ = some (.int .i64 pt) := by rw [cell_of_row _ _ 1 _ _ _ (HBX.out nq)]; rfl
        have d2 : (w0.drewN nq).cell? ⟨w.heap.size, 2, none⟩ = some (.int .u16 sq) := by rw [cell_of_row _ _ 2 _ _ _ (HBX.out nq)]; rfl
        have d3 : (w0.drewN nq).cell? ⟨w.heap.size, 3, none⟩ = some (.int .u32 ts) := by rw [cell_of_row _ _ 3 _ _ _ (HBX.out nq)]; rfl
        have d4 : (w0.drewN nq).cell? ⟨w.heap.size, 4, none⟩ = some (.int .u32 ss) := by rw [cell_of_row _ _ 4 _ _ _ (HBX.out nq)]; rfl
        have d5 : (w0.drewN nq).cell? ⟨w.heap.size, 5, none⟩ = some (.slice ac nc cc) := by rw [cell_of_row _ _ 5 _ _ _ (HBX.out nq)]; rfl
        have d6 : (w0.drewN nq).cell? ⟨w.heap.size, 6, none⟩ = some (.bool true) := by rw [cell_of_row _ _ 6 _ _ _ (HBX.out nq)]; rfl
        have d7 : (w0.drewN nq).cell? ⟨w.heap.size, 7, none⟩ = some (.int .u16 pr) := by rw [cell_of_row _ _ 7 _ _ _ (HBX.out nq)]; rfl
        have d8 : (w0.drewN nq).cell? ⟨w.heap.size, 8, none⟩ = some (.slice ae ne ce) := by rw [cell_of_row _ _ 8 _ _ _ (HBX.out nq)]; rfl
        have d9 : (w0.drewN nq).cell? ⟨w.heap.size, 9, none⟩ = some (.slice ap np cp) := by rw [cell_of_row _ _ 9 _ _ _ (HBX.out nq)]; rfl
        have d10 : (w0.drewN nq).cell? ⟨w.heap.size, 10, none⟩ = some (.slice ad 0 cd) := by rw [cell_of_row _ _ 10 _ _ _ (HBX.out nq)]; rfl
        go_wp2_with fail
        exact HP.out _ (HBD.out nq)
      · go_enter Try.func7, Try.ntmps7
        go_upto_region 1 with (fail)
        rw [HW0.out]
        go_upto_region 3 with (fail)
        go_quiet (fail)
        clear d0 d1 d2 d3 d4 d5 d6 d7 d8 d9 d10
        have d0 : (w0.drewN nq).cell? ⟨w.heap.size, 0, none⟩ = some (.bool m) := by rw [cell_of_row _ _ 0 _ _ _ (HBX.out nq)]; rfl
        have d1 : (w0.drewN nq).cell? ⟨w.heap.size, 1, none⟩ = some (.int .i64 pt) := by rw [cell_of_row _ _ 1 _ _ _ (HBX.out nq)]; rfl
        have d2 : (w0.drewN nq).cell? ⟨w.heap.size, 2, none⟩ = some (.int .u16 sq) := by rw [cell_of_row _ _ 2 _ _ _ (HBX.out nq)]; rfl
        have d3 : (w0.drewN nq).cell? ⟨w.heap.size, 3, none⟩ = some (.int .u32 ts) := by rw [cell_of_row _ _ 3 _ _ _ (HBX.out nq)]; rfl
        have d4 : (w0.drewN nq).cell? ⟨w.heap.size, 4, none⟩ = some (.int .u32 ss) := by rw [cell_of_row _ _ 4 _ _ _ (HBX.out nq)]; rfl
        have d5 : (w0.drewN nq).cell? ⟨w.heap.size, 5, none⟩ = some (.slice ac nc cc) := by rw [cell_of_row _ _ 5 _ _ _ (HBX.out nq)]; rfl
        have d6 : (w0.drewN nq).cell? ⟨w.heap.size, 6, none⟩ = some (.bool true) := by rw [cell_of_row _ _ 6 _ _ _ (HBX.out nq)]; rfl
        have d7 : (w0.drewN nq).cell? ⟨w.heap.size, 7, none⟩ = some (.int .u16 pr) := by rw [cell_of_row _ _ 7 _ _ _ (HBX.out nq)]; rfl
        have d8 : (w0.drewN nq).cell? ⟨w.heap.size, 8, none⟩ = some (.slice ae ne ce) := by rw [cell_of_row _ _ 8 _ _ _ (HBX.out nq)]; rfl
        have d9 : (w0.drewN nq).cell? ⟨w.heap.size, 9, none⟩ = some (.slice ap np cp) := by rw [cell_of_row _ _ 9 _ _ _ (HBX.out nq)]; rfl
        have d10 : (w0.drewN nq).cell? ⟨w.heap.size, 10, none⟩ = some (.slice ad 0 cd) := by rw [cell_of_row _ _ 10 _ _ _ (HBX.out nq)]; rfl
        go_wp2_with fail
        refine (HSIZE.out _).mono ?_
        rintro e w3 ⟨rfl, hB3⟩
        have HB3 := Lib.hid ((HBD.out nq).trans (hB3.mono (HBD.out nq).size))
        clear hB3 d0 d1 d2 d3 d4 d5 d6 d7 d8 d9 d10
        go_wp2_with fail
        exact HP.out _ HB3.out
  · have h0 : 0 < nd := by omega
    have h9 : (0 : Int) < (nd : Int) := by omega
    have hi : IntKind.i64.wrap ((nd : Int) - 1) = ((nd - 1 : Nat) : Int) := by rw [IntKind.wrap_i64]; omega
    have hi' : (nd : Int) - 1 = ((nd - 1 : Nat) : Int) := by omega
    have hi0 : (0 : Int) ≤ ((nd - 1 : Nat) : Int) := by omega
    have hi2 : ((nd - 1 : Nat) : Int) < (nd : Int) := by omega
    have hw : IntKind.i64.wrap (nd : Int) = (nd : Int) := by rw [IntKind.wrap_i64]; omega
    obtain ⟨pb, po, hr⟩ := (hpd.below hB0).row
    obtain ⟨rfl, hbl, g0, _⟩ := hr (nd - 1) (by omega)
    rcases hl with hl | hl
    · omega
    rw [hl] at g0
    clear hr hl
    clear hn0 hpd
    rcases hx with ⟨rfl, rfl, rfl⟩ | ⟨rfl, h4⟩
    · have d0 : w0.cell? ⟨w.heap.size, 0, none⟩ = some (.bool m) := by rw [cell_of_row _ _ 0 _ _ _ (hr0)]; rfl
      have d1 : w0.cell? ⟨w.heap.size, 1, none⟩ = some (.int .i64 pt) := by rw [cell_of_row _ _ 1 _ _ _ (hr0)]; rfl
      have d2 : w0.cell? ⟨w.heap.size, 2, none⟩ = some (.int .u16 sq) := by rw [cell_of_row _ _ 2 _ _ _ (hr0)]; rfl
      have d3 : w0.cell? ⟨w.heap.size, 3, none⟩ = some (.int .u32 ts) := by rw [cell_of_row _ _ 3 _ _ _ (hr0)]; rfl
      have d4 : w0.cell? ⟨w.heap.size, 4, none⟩ = some (.int .u32 ss) := by rw [cell_of_row _ _ 4 _ _ _ (hr0)]; rfl
      have d5 : w0.cell? ⟨w.heap.size, 5, none⟩ = some (.slice ac nc cc) := by rw [cell_of_row _ _ 5 _ _ _ (hr0)]; rfl
      have d6 : w0.cell? ⟨w.heap.size, 6, none⟩ = some (.bool false) := by rw [cell_of_row _ _ 6 _ _ _ (hr0)]; rfl
      have d7 : w0.cell? ⟨w.heap.size, 7, none⟩ = some (.int .u16 0) := by rw [cell_of_row _ _ 7 _ _ _ (hr0)]; rfl
      have d8 : w0.cell? ⟨w.heap.size, 8, none⟩ = some (.slice ae 0 ce) := by rw [cell_of_row _ _ 8 _ _ _ (hr0)]; rfl
      have d9 : w0.cell? ⟨w.heap.size, 9, none⟩ = some (.slice ap np cp) := by rw [cell_of_row _ _ 9 _ _ _ (hr0)]; rfl
      have d10 : w0.cell? ⟨w.heap.size, 10, none⟩ = some (.slice (some ⟨pb, po, none⟩) nd cd) := by rw [cell_of_row _ _ 10 _ _ _ (hr0)]; rfl
      clear hr0
      generalize nd - 1 = kd at *
      rcases hcase with ⟨rfl, h7⟩ | ⟨rfl, h7, h8⟩
      · go_enter Try.func7, Try.ntmps7
        go_upto_region 1 with (fail)
        rw [HW0.out]
        go_upto_region 3 with (fail)
        go_quiet (fail)
        clear d0 d1 d2 d3 d4 d5 d6 d7 d8 d9 d10
        have d0 : (w0.drewN nq).cell? ⟨w.heap.size, 0, none⟩ = some (.bool m) := by rw [cell_of_row _ _ 0 _ _ _ (HBX.out nq)]; rfl
        have d1 : (w0.drewN nq).cell? ⟨w.heap.size, 1, none⟩ = some (.int .i64 pt) := by rw [cell_of_row _ _ 1 _ _ _ (HBX.out nq)]; rfl
        have d2 : (w0.drewN nq).cell? ⟨w.heap.size, 2, none⟩ = some (.int .u16 sq) := by rw [cell_of_row _ _ 2 _ _ _ (HBX.out nq)]; rfl
        have d3 : (w0.drewN nq).cell? ⟨w.heap.size, 3, none⟩ = some (.int .u32 ts) := by rw [cell_of_row _ _ 3 _ _ _ (HBX.out nq)]; rfl
        have d4 : (w0.drewN nq).cell? ⟨w.heap.size, 4, none⟩ = some (.int .u32 ss) := by rw [cell_of_row _ _ 4 _ _ _ (HBX.out nq)]; rfl
        have d5 : (w0.drewN nq).cell? ⟨w.heap.size, 5, none⟩ = some (.slice ac nc cc) := by rw [cell_of_row _ _ 5 _ _ _ (HBX.out nq)]; rfl
        have d6 : (w0.drewN nq).cell? ⟨w.heap.size, 6, none⟩ = some (.bool false) := by rw [cell_of_row _ _ 6 _ _ _ (HBX.out nq)]; rfl
        have d7 : (w0.drewN nq).cell? ⟨w.heap.size, 7, none⟩ = some (.int .u16 0) := by rw [cell_of_row _ _ 7 _ _ _ (HBX.out nq)]; rfl
        have d8 : (w0.drewN nq).cell? ⟨w.heap.size, 8, none⟩ = some (.slice ae 0 ce) := by rw [cell_of_row _ _ 8 _ _ _ (HBX.out nq)]; rfl
        have d9 : (w0.drewN nq).cell? ⟨w.heap.size, 9, none⟩ = some (.slice ap np cp) := by rw [cell_of_row _ _ 9 _ _ _ (HBX.out nq)]; rfl
        have d10 : (w0.drewN nq).cell? ⟨w.heap.size, 10, none⟩ = some (.slice (some ⟨pb, po, none⟩) nd cd) := by rw [cell_of_row _ _ 10 _ _ _ (HBX.out nq)]; rfl
        go_wp2_with fail
        exact HP.out _ (HBD.out nq)
      · go_enter Try.func7, Try.ntmps7
        go_upto_region 1 with (fail)
        rw [HW0.out]
        go_upto_region 3 with (fail)
        go_quiet (fail)
        clear d0 d1 d2 d3 d4 d5 d6 d7 d8 d9 d10
        have d0 : (w0.drewN nq).cell? ⟨w.heap.size, 0, none⟩ = some (.bool m) := by rw [cell_of_row _ _ 0 _ _ _ (HBX.out nq)]; rfl
        have d1 : (w0.drewN nq).cell? ⟨w.heap.size, 1, none⟩ = some (.int .i64 pt) := by rw [cell_of_row _ _ 1 _ _ _ (HBX.out nq)]; rfl
        have d2 : (w0.drewN nq).cell? ⟨w.heap.size, 2, none⟩ = some (.int .u16 sq) := by rw [cell_of_row _ _ 2 _ _ _ (HBX.out nq)]; rfl
        have d3 : (w0.drewN nq).cell? ⟨w.heap.size, 3, none⟩ = some (.int .u32 ts) := by rw [cell_of_row _ _ 3 _ _ _ (HBX.out nq)]; rfl
        have d4 : (w0.drewN nq).cell? ⟨w.heap.size, 4, none⟩ = some (.int .u32 ss) := by rw [cell_of_row _ _ 4 _ _ _ (HBX.out nq)]; rfl
        have d5 : (w0.drewN nq).cell? ⟨w.heap.size, 5, none⟩ = some (.slice ac nc cc) := by rw [cell_of_row _ _ 5 _ _ _ (HBX.out nq)]; rfl
        have d6 : (w0.drewN nq).cell? ⟨w.heap.size, 6, none⟩ = some (.bool false) := by rw [cell_of_row _ _ 6 _ _ _ (HBX.out nq)]; rfl
        have d7 : (w0.drewN nq).cell? ⟨w.heap.size, 7, none⟩ = some (.int .u16 0) := by rw [cell_of_row _ _ 7 _ _ _ (HBX.out nq)]; rfl
        have d8 : (w0.drewN nq).cell? ⟨w.heap.size, 8, none⟩ = some (.slice ae 0 ce) := by rw [cell_of_row _ _ 8 _ _ _ (HBX.out nq)]; rfl
        have d9 : (w0.drewN nq).cell? ⟨w.heap.size, 9, none⟩ = some (.slice ap np cp) := by rw [cell_of_row _ _ 9 _ _ _ (HBX.out nq)]; rfl
        have d10 : (w0.drewN nq).cell? ⟨w.heap.size, 10, none⟩ = some (.slice (some ⟨pb, po, none⟩) nd cd) := by rw [cell_of_row _ _ 10 _ _ _ (HBX.out nq)]; rfl
        go_wp2_with fail
        refine (HSIZE.out _).mono ?_
        rintro e w3 ⟨rfl, hB3⟩
        have HB3 := Lib.hid ((HBD.out nq).trans (hB3.mono (HBD.out nq).size))
        clear hB3 d0 d1 d2 d3 d4 d5 d6 d7 d8 d9 d10
        go_wp2_with fail
        exact HP.out _ HB3.out
    · have er : ((ne : Int)).tmod 4 = 0 := by rw [Int.tmod_eq_emod_of_nonneg (by omega)]; omega
      clear h4
      have d0 : w0.cell? ⟨w.heap.size, 0, none⟩ = some (.bool m) := by rw [cell_of_row _ _ 0 _ _ _ (hr0)]; rfl
      have d1 : w0.cell? ⟨w.heap.size, 1, none⟩ = some (.int .i64 pt) := by rw [cell_of_row _ _ 1 _ _ _ (hr0)]; rfl
      have d2 : w0.cell? ⟨w.heap.size, 2, none⟩ = some (.int .u16 sq) := by rw [cell_of_row _ _ 2 _ _ _ (hr0)]; rfl
      have d3 : w0.cell? ⟨w.heap.size, 3, none⟩ = some (.int .u32 ts) := by rw [cell_of_row _ _ 3 _ _ _ (hr0)]; rfl
      have d4 : w0.cell? ⟨w.heap.size, 4, none⟩ = some (.int .u32 ss) := by rw [cell_of_row _ _ 4 _ _ _ (hr0)]; rfl
      have d5 : w0.cell? ⟨w.heap.size, 5, none⟩ = some (.slice ac nc cc) := by rw [cell_of_row _ _ 5 _ _ _ (hr0)]; rfl
      have d6 : w0.cell? ⟨w.heap.size, 6, none⟩ = some (.bool true) := by rw [cell_of_row _ _ 6 _ _ _ (hr0)]; rfl
      have d7 : w0.cell? ⟨w.heap.size, 7, none⟩ = some (.int .u16 pr) := by rw [cell_of_row _ _ 7 _ _ _ (hr0)]; rfl
      have d8 : w0.cell? ⟨w.heap.size, 8, none⟩ = some (.slice ae ne ce) := by rw [cell_of_row _ _ 8 _ _ _ (hr0)]; rfl
      have d9 : w0.cell? ⟨w.heap.size, 9, none⟩ = some (.slice ap np cp) := by rw [cell_of_row _ _ 9 _ _ _ (hr0)]; rfl
      have d10 : w0.cell? ⟨w.heap.size, 10, none⟩ = some (.slice (some ⟨pb, po, none⟩) nd cd) := by rw [cell_of_row _ _ 10 _ _ _ (hr0)]; rfl
      clear hr0
      generalize nd - 1 = kd at *
      rcases hcase with ⟨rfl, h7⟩ | ⟨rfl, h7, h8⟩
      · go_enter Try.func7, Try.ntmps7
        go_upto_region 1 with (fail)
        rw [HW0.out]
        go_upto_region 3 with (fail)
        go_quiet (fail)
        clear d0 d1 d2 d3 d4 d5 d6 d7 d8 d9 d10
        have d0 : (w0.drewN nq).cell? ⟨w.heap.size, 0, none⟩ = some (.bool m) := by rw [cell_of_row _ _ 0 _ _ _ (HBX.out nq)]; rfl
        have d1 : (w0.drewN nq).cell? ⟨w.heap.size, 1, none⟩ = some (.int .i64 pt) := by rw [cell_of_row _ _ 1 _ _ _ (HBX.out nq)]; rfl
        have d2 : (w0.drewN nq).cell? ⟨w.heap.size, 2, none⟩ = some (.int .u16 sq) := by rw [cell_of_row _ _ 2 _ _ _ (HBX.out nq)]; rfl
        have d3 : (w0.drewN nq).cell? ⟨w.heap.size, 3, none⟩ = some (.int .u32 ts) := by rw [cell_of_row _ _ 3 _ _ _ (HBX.out nq)]; rfl
        have d4 : (w0.drewN nq).cell? ⟨w.heap.size, 4, none⟩ = some (.int .u32 ss) := by rw [cell_of_row _ _ 4 _ _ _ (HBX.out nq)]; rfl
        have d5 : (w0.drewN nq).cell? ⟨w.heap.size, 5, none⟩ = some (.slice ac nc cc) := by rw [cell_of_row _ _ 5 _ _ _ (HBX.out nq)]; rfl
        have d6 : (w0.drewN nq).cell? ⟨w.heap.size, 6, none⟩ = some (.bool true) := by rw [cell_of_row _ _ 6 _ _ _ (HBX.out nq)]; rfl
        have d7 : (w0.drewN nq).cell? ⟨w.heap.size, 7, none⟩ = some (.int .u16 pr) := by rw [cell_of_row _ _ 7 _ _ _ (HBX.out nq)]; rfl
        have d8 : (w0.drewN nq).cell? ⟨w.heap.size, 8, none⟩ = some (.slice ae ne ce) := by rw [cell_of_row _ _ 8 _ _ _ (HBX.out nq)]; rfl
        have d9 : (w0.drewN nq).cell? ⟨w.heap.size, 9, none⟩ = some (.slice ap np cp) := by rw [cell_of_row _ _ 9 _ _ _ (HBX.out nq)]; rfl
        have d10 : (w0.drewN nq).cell? ⟨w.heap.size, 10, none⟩ = some (.slice (some ⟨pb, po, none⟩) nd cd) := by rw [cell_of_row _ _ 10 _ _ _ (HBX.out nq)]; rfl
        go_wp2_with fail
        exact HP.out _ (HBD.out nq)
      · go_enter Try.func7, Try.ntmps7
        go_upto_region 1 with (fail)
        rw [HW0.out]
        go_upto_region 3 with (fail)
        go_quiet (fail)
        clear d0 d1 d2 d3 d4 d5 d6 d7 d8 d9 d10
        have d0 : (w0.drewN nq).cell? ⟨w.heap.size, 0, none⟩ = some (.bool m) := by rw [cell_of_row _ _ 0 _ _ _ (HBX.out nq)]; rfl
        have d1 : (w0.drewN nq).cell? ⟨w.heap.size, 1, none⟩ = some (.int .i64 pt) := by rw [cell_of_row _ _ 1 _ _ _ (HBX.out nq)]; rfl
        have d2 : (w0.drewN nq).cell? ⟨w.heap.size, 2, none⟩ = some (.int .u16 sq) := by rw [cell_of_row _ _ 2 _ _ _ (HBX.out nq)]; rfl
        have d3 : (w0.drewN nq).cell? ⟨w.heap.size, 3, none⟩ = some (.int .u32 ts) := by rw [cell_of_row _ _ 3 _ _ _ (HBX.out nq)]; rfl
        have d4 : (w0.drewN nq).cell? ⟨w.heap.size, 4, none⟩ = some (.int .u32 ss) := by rw [cell_of_row _ _ 4 _ _ _ (HBX.out nq)]; rfl
        have d5 : (w0.drewN nq).cell? ⟨w.heap.size, 5, none⟩ = some (.slice ac nc cc) := by rw [cell_of_row _ _ 5 _ _ _ (HBX.out nq)]; rfl
        have d6 : (w0.drewN nq).cell? ⟨w.heap.size, 6, none⟩ = some (.bool true) := by rw [cell_of_row _ _ 6 _ _ _ (HBX.out nq)]; rfl
        have d7 : (w0.drewN nq).cell? ⟨w.heap.size, 7, none⟩ = some (.int .u16 pr) := by rw [cell_of_row _ _ 7 _ _ _ (HBX.out nq)]; rfl
        have d8 : (w0.drewN nq).cell? ⟨w.heap.size, 8, none⟩ = some (.slice ae ne ce) := by rw [cell_of_row _ _ 8 _ _ _ (HBX.out nq)]; rfl
        have d9 : (w0.drewN nq).cell? ⟨w.heap.size, 9, none⟩ = some (.slice ap np cp) := by rw [cell_of_row _ _ 9 _ _ _ (HBX.out nq)]; rfl
        have d10 : (w0.drewN nq).cell? ⟨w.heap.size, 10, none⟩ = some (.slice (some ⟨pb, po, none⟩) nd cd) := by rw [cell_of_row _ _ 10 _ _ _ (HBX.out nq)]; rfl
        go_wp2_with fail
        refine (HSIZE.out _).mono ?_
        rintro e w3 ⟨rfl, hB3⟩
        have HB3 := Lib.hid ((HBD.out nq).trans (hB3.mono (HBD.out nq).size))
        clear hB3 d0 d1 d2 d3 d4 d5 d6 d7 d8 d9 d10
        go_wp2_with fail
        exact HP.out _ HB3.out
end Go.Proofs.Ytkoldfoliigifaa

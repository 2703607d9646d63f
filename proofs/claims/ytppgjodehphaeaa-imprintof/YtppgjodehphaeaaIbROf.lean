/-
  Eight zeros made.
-/
import Derived.Test.YtppgjodehphaeaaStrRef2
import Derived.Deep.OwnRows
import Derived.Test.YtppgjodehphaeaaIbRP1
namespace Go.Proofs.Ytppgjodehphaeaa
open Go.RowKit Go.Shelf
set_option linter.unusedVariables false
def z8 : List Int := [0, 0, 0, 0, 0, 0, 0, 0]
theorem mk8 (W : World) : (Instr.makeSlice 22 (.int .i64 8) (.int .i64 8)).run Try.prog W = .ok (.slice (some ⟨W.heap.size, 0, none⟩) 8 8) (W.alloc (.cells #[.int .u8 0, .int .u8 0, .int .u8 0, .int .u8 0, .int .u8 0, .int .u8 0, .int .u8 0, .int .u8 0] 5)) := by
  have h := run_make_row' (P := Try.prog) 22 5 (.int .u8 0) 1 (by kernel_rfl) (by kernel_rfl) rfl .i64 .i64 8 (by decide) (by decide) W
  have e : madeCells #[Value.int .u8 0] 8 = #[.int .u8 0, .int .u8 0, .int .u8 0, .int .u8 0, .int .u8 0, .int .u8 0, .int .u8 0, .int .u8 0] := by first | kernel_rfl | (unfold madeCells; simp [Array.range]; rfl) | (unfold madeCells; rfl)
  rw [e] at h
  exact h
theorem mk8_own (W : World) (base : Nat) (hb : base ≤ W.heap.size) : Own (W.alloc (.cells #[.int .u8 0, .int .u8 0, .int .u8 0, .int .u8 0, .int .u8 0, .int .u8 0, .int .u8 0, .int .u8 0] 5)) base (some ⟨W.heap.size, 0, none⟩) 8 8 z8 :=
  ⟨⟨rfl, .inr ⟨W.heap.size, 8, _, rfl, hb, heap_alloc_new W _, Nat.le_refl _, by unfold maxLen; omega, rfl, rfl⟩⟩, fun i => by
    rcases i with _ | _ | _ | _ | _ | _ | _ | _ | i
    all_goals simp [z8]⟩
end Go.Proofs.Ytppgjodehphaeaa
namespace Go.Proofs.Ytppgjodehphaeaa
open Go.RowKit Go.Shelf
set_option linter.unusedVariables false
set_option linter.unusedSimpArgs false
/-- What the reference's Of leaves. -/
def ROfOut (n : Nat) (l : List Int) (w : World) (e : Ending) (w' : World) : Prop :=
  (pcodeF n l ≠ 0 → ∃ ah ch, e = .returned (.tuple #[.agg #[.slice ah 8 ch, .slice none 0 0], .int .i64 (pcodeF n l)]) ∧ BAt w' ah 8 [0, 0, 0, 0, 0, 0, 0, 0] ∧ Below w.heap.size w w') ∧
  (pcodeF n l = 0 → ∃ ah ch ab cb, e = .returned (.tuple #[.agg #[.slice ah 8 ch, .slice ab (n - 12) cb], .int .i64 0]) ∧ BAt w' ah 8 (ihd l) ∧ BAt w' ab (n - 12) (l.drop 12) ∧ Below w.heap.size w w')
theorem bat_put2 {W : World} {P : Nat} {a : Option Addr} {n : Nat} {l : List Int} (h : BAt W a n l) (hp : ∀ x, a = some x → x.block ≠ P) (x y : Value) : BAt ((W.setCell ⟨P, 0, none⟩ x).setCell ⟨P, 1, none⟩ y) a n l :=
  h.same (by simp) fun z _ hz _ => (Below.heap_setCell _ _ _ _ (hp z hz)).trans (Below.heap_setCell _ _ _ _ (hp z hz))
set_option maxHeartbeats 1000000 in
set_option maxRecDepth 100000 in
theorem rof_any (a : Option Addr) (n c : Nat) (l : List Int) (w : World) (ha : BAt w a n l) (hc : n ≤ c) :
    Calls Try.prog 9 #[.slice a n c] w (ROfOut n l w) := by
  have hlen := ha.len
  have hlim := ha.lim
  have HPR := Lib.hid (fun W (h : Below w.heap.size w W) => rparse5_any a n c l W (ha.below h) hc)
  have HA := Lib.hid ha
  clear ha
  obtain ⟨w1, hw1⟩ : ∃ u, w.alloc (.cells #[.slice none 0 0, .slice none 0 0] 32) = u := ⟨_, rfl⟩
  have hB1 : Below w.heap.size w w1 := by rw [← hw1]; exact (Below.refl _ w).alloc (Nat.le_refl _) _
  have hx1 : w1.heap[w.heap.size]? = some (.cells #[.slice none 0 0, .slice none 0 0] 32 (0, 0)) := by rw [← hw1]; exact lit_new rfl
  have HW1 := Lib.hid hw1; have HB1 := Lib.hid hB1; have HX1 := Lib.hid hx1
  clear hw1 hB1 hx1
  go_enter Try.func9, Try.ntmps9
  go_wp2_with fail
  rw [HW1.out]
  refine (HPR.out _ HB1.out).mono ?_
  rintro e w2 ⟨h3, h4⟩
  by_cases hf : pcodeF n l = 0
  case neg =>
    obtain ⟨m, h, pt, ts, pr, a5, a8, a9, a10, n5, c5, n8, c8, n9, c9, n10, c10, rfl, hB2⟩ := h3 hf
    have hfb : (pcodeF n l != 0) = true := by simpa using hf
    have hmk := mk8
    obtain ⟨wp, hwp⟩ : ∃ u, w2.alloc (.cells #[.bool m, .int .i64 pt, .int .u16 0, .int .u32 ts, .int .u32 0, .slice a5 n5 c5, .bool h, .int .u16 pr, .slice a8 n8 c8, .slice a9 n9 c9, .slice a10 n10 c10] 66) = u := ⟨_, rfl⟩
    obtain ⟨wm, hwm⟩ : ∃ u, wp.alloc (.cells #[.int .u8 0, .int .u8 0, .int .u8 0, .int .u8 0, .int .u8 0, .int .u8 0, .int .u8 0, .int .u8 0] 5) = u := ⟨_, rfl⟩
    have k2 : Below w2.heap.size w2 wp := by rw [← hwp]; exact (Below.refl _ w2).alloc (Nat.le_refl _) _
    have k3 : Below wp.heap.size wp wm := by rw [← hwm]; exact (Below.refl _ wp).alloc (Nat.le_refl _) _
    have hz1 : w.heap.size < w1.heap.size := (Array.getElem?_eq_some_iff.1 HX1.out).1
    have hz2 := hB2.size
    have hz3 := k2.size
    have ho : Own wm (w.heap.size + 1) (some ⟨wp.heap.size, 0, none⟩) 8 8 z8 := by rw [← hwm]; exact mk8_own wp _ (by omega)
    have hm := (k3.block _ (by omega)).trans ((k2.block _ (by omega)).trans ((hB2.block _ hz1).trans HX1.out))
    have hlow : Below w.heap.size w wm := HB1.out.trans ((hB2.mono (by omega)).trans ((k2.mono (by omega)).trans (k3.mono (by omega))))
    have b0 : wm.cell? ⟨w.heap.size, 0, none⟩ = some (.slice none 0 0) := by rw [cell_of_row wm _ 0 _ _ _ hm]; rfl
    have b1 : wm.cell? ⟨w.heap.size, 1, none⟩ = some (.slice none 0 0) := by rw [cell_of_row wm _ 1 _ _ _ hm]; rfl
    have bf : ∀ o, wm.frozen? ⟨w.heap.size, o, none⟩ = false := fun o => frozen_of_row wm _ o _ _ hm
    have ho2 := ho.put2 (P := w.heap.size) (base' := w.heap.size) (by omega) (by omega) (.slice (some ⟨wp.heap.size, 0, none⟩) 8 8) (.slice none 0 0)
    have hr5 : ((wm.setCell ⟨w.heap.size, 0, none⟩ (.slice (some ⟨wp.heap.size, 0, none⟩) 8 8)).setCell ⟨w.heap.size, 1, none⟩ (.slice none 0 0)).heap[w.heap.size]? = some (.cells #[.slice (some ⟨wp.heap.size, 0, none⟩) 8 8, .slice none 0 0] 32 (0, 0)) := heap_setCell_same _ _ 1 _ _ _ (heap_setCell_same wm _ 0 _ _ _ hm)
    have hlow5 : Below w.heap.size w ((wm.setCell ⟨w.heap.size, 0, none⟩ (.slice (some ⟨wp.heap.size, 0, none⟩) 8 8)).setCell ⟨w.heap.size, 1, none⟩ (.slice none 0 0)) := (hlow.setCell (by show _ ≤ w.heap.size; omega) _).setCell (by show _ ≤ w.heap.size; omega) _
    obtain ⟨w5, hw5⟩ : ∃ w5, (wm.setCell ⟨w.heap.size, 0, none⟩ (.slice (some ⟨wp.heap.size, 0, none⟩) 8 8)).setCell ⟨w.heap.size, 1, none⟩ (.slice none 0 0) = w5 := ⟨_, rfl⟩
    rw [hw5] at ho2 hr5 hlow5
    have HFIN : Hid (ROfOut n l w (.returned (.tuple #[.agg #[.slice (some ⟨wp.heap.size, 0, none⟩) 8 8, .slice none 0 0], .int .i64 (pcodeF n l)])) w5) := Lib.hid ⟨fun _ => ⟨_, _, rfl, ho2.bat, hlow5⟩, fun e => absurd e hf⟩
    clear k2 k3 ho hm hlow ho2 hlow5 h3 h4 hB2 HPR hz1 hz2 hz3
    have k0 : w5.cell? ⟨w.heap.size, 0, none⟩ = some (.slice (some ⟨wp.heap.size, 0, none⟩) 8 8) := by rw [cell_of_row w5 _ 0 _ _ _ hr5]; rfl
    have k1 : w5.cell? ⟨w.heap.size, 1, none⟩ = some (.slice none 0 0) := by rw [cell_of_row w5 _ 1 _ _ _ hr5]; rfl
    clear hr5
    obtain ⟨Post, hPost⟩ : ∃ Post, ROfOut n l w = Post := ⟨_, rfl⟩
    rw [hPost] at HFIN
    generalize pcodeF n l = f at *
    go_wp2_with fail
    rw [← hPost] at HFIN
    exact bodyPost_ret (v := .tuple #[.agg #[.slice (some ⟨wp.heap.size, 0, none⟩) 8 8, .slice none 0 0], .int .i64 f]) (by simp [results, Try.results9, k0, k1, go_sem]) rfl HFIN.out
  obtain ⟨m, h, pt, ts, pr, a5, a8, a9, a10, n5, c5, n8, c8, n9, c9, n10, c10, rfl, hB2⟩ := h4 hf
  generalize Num ((l.drop 2).take 2) = sq
  generalize Num ((l.drop 8).take 4) = sr
  have hl := pcodeF_long hf
  obtain ⟨wp, hwp⟩ : ∃ u, w2.alloc (.cells #[.bool m, .int .i64 pt, .int .u16 sq, .int .u32 ts, .int .u32 sr, .slice a5 n5 c5, .bool h, .int .u16 pr, .slice a8 n8 c8, .slice a9 n9 c9, .slice a10 n10 c10] 66) = u := ⟨_, rfl⟩
  have k2 : Below w2.heap.size w2 wp := by rw [← hwp]; exact (Below.refl _ w2).alloc (Nat.le_refl _) _
  have hz1 : w.heap.size < w1.heap.size := (Array.getElem?_eq_some_iff.1 HX1.out).1
  have hz2 := hB2.size
  have hlow : Below w.heap.size w wp := HB1.out.trans ((hB2.mono (by omega)).trans (k2.mono (by omega)))
  have hbx := (k2.block _ (by omega)).trans ((hB2.block _ hz1).trans HX1.out)
  obtain ⟨b, o, hr⟩ := HA.out.row
  obtain ⟨rfl, hbl, d0, q0⟩ := hr 0 (by omega)
  obtain ⟨_, _, d1, q1⟩ := hr 1 (by omega)
  obtain ⟨_, _, d4, q4⟩ := hr 4 (by omega)
  obtain ⟨_, _, d5, q5⟩ := hr 5 (by omega)
  obtain ⟨_, _, d6, q6⟩ := hr 6 (by omega)
  obtain ⟨_, _, d7, q7⟩ := hr 7 (by omega)
  rw [Nat.add_zero] at d0
  have hm12 : ((n - 12 : Nat) : Int) = (n : Int) - 12 := by omega
  obtain ⟨m12, hm⟩ : ∃ k, n - 12 = k := ⟨_, rfl⟩
  have hihd : ihd l = [l.getD 0 0 % 64, l.getD 1 0, l.getD 4 0, l.getD 5 0, l.getD 6 0, l.getD 7 0, (m12 : Int) / 256, (m12 : Int) % 256] := by unfold ihd; rw [hlen, hm]
  have hsl : ∀ W, (Instr.slice 22 (.slice (some ⟨b, o, none⟩) n c) (some (.int .i64 12)) none none).run Try.prog W = .ok (.slice (restA (some ⟨b, o, none⟩) c 12) m12 (c - 12)) W := fun W => by
    have := run_rest (some ⟨b, o, none⟩) n c 12 (by omega) (by omega) W
    rw [hm] at this
    exact this
  have HCP : Hid (∀ W, Below w.heap.size w W → Calls Try.prog 7 #[.slice (restA (some ⟨b, o, none⟩) c 12) m12 (c - 12)] W (NewB m12 (l.drop 12) W)) := Lib.hid fun W hW => by
    have := copy_any (restA (some ⟨b, o, none⟩) c 12) (n - 12) (c - 12) _ W (restA_bat (HA.out.below hW) hc 12 (by omega)) (by omega)
    rw [hm] at this
    exact this
  rw [hm] at hm12
  have HPOST : Hid (∀ ah ch ab cb W, BAt W ah 8 (ihd l) → BAt W ab m12 (l.drop 12) → Below w.heap.size w W → ROfOut n l w (.returned (.tuple #[.agg #[.slice ah 8 ch, .slice ab m12 cb], .int .i64 0])) W) := Lib.hid fun ah ch ab cb W h1 h2 h3 => ⟨fun e => absurd hf e, fun _ => ⟨ah, ch, ab, cb, by rw [hm], h1, by rw [hm]; exact h2, h3⟩⟩
  obtain ⟨L, hL⟩ : ∃ L, ihd l = L := ⟨_, rfl⟩
  rw [hL] at hihd HPOST
  generalize l.getD 0 0 = x0 at *
  generalize l.getD 1 0 = x1 at *
  generalize l.getD 4 0 = x4 at *
  generalize l.getD 5 0 = x5 at *
  generalize l.getD 6 0 = x6 at *
  generalize l.getD 7 0 = x7 at *
  obtain ⟨y0, hy0⟩ : ∃ y, x0 % 64 = y := ⟨_, rfl⟩
  obtain ⟨y6, hy6⟩ : ∃ y, (m12 : Int) / 256 = y := ⟨_, rfl⟩
  obtain ⟨y7, hy7⟩ : ∃ y, (m12 : Int) % 256 = y := ⟨_, rfl⟩
  have b0 : 0 ≤ y0 ∧ y0 < 256 := by omega
  have b6 : 0 ≤ y6 ∧ y6 < 256 := by omega
  have b7 : 0 ≤ y7 ∧ y7 < 256 := by omega
  rw [hy0, hy6, hy7] at hihd
  have t0 : x0.tmod 64 = y0 := by rw [Int.tmod_eq_emod_of_nonneg (by omega)]; exact hy0
  have t6 : (m12 : Int).tdiv 256 = y6 := by rw [Int.tdiv_eq_ediv_of_nonneg (by omega)]; exact hy6
  have t7 : (m12 : Int).tmod 256 = y7 := by rw [Int.tmod_eq_emod_of_nonneg (by omega)]; exact hy7
  have u0 : IntKind.u8.wrap y0 = y0 := by simp [IntKind.wrap, IntKind.bits, IntKind.signed]; omega
  have u6 : IntKind.u8.wrap y6 = y6 := by simp [IntKind.wrap, IntKind.bits, IntKind.signed]; omega
  have u7 : IntKind.u8.wrap y7 = y7 := by simp [IntKind.wrap, IntKind.bits, IntKind.signed]; omega
  have v6 : IntKind.i64.wrap y6 = y6 := by rw [IntKind.wrap_i64]; omega
  have v7 : IntKind.i64.wrap y7 = y7 := by rw [IntKind.wrap_i64]; omega
  have vm : IntKind.i64.wrap ((n : Int) - 12) = (m12 : Int) := by rw [IntKind.wrap_i64]; omega
  have hm12' : (n : Int) - 12 = (m12 : Int) := hm12.symm
  have hn1 : (1 : Int) < n := by omega
  have hn4 : (4 : Int) < n := by omega
  have hn5 : (5 : Int) < n := by omega
  have hn6 : (6 : Int) < n := by omega
  have hn7 : (7 : Int) < n := by omega
  have hn0 : (0 : Int) < n := by omega
  have hn0' : 0 < n := by omega
  have MK : Hid (∀ W, Below w.heap.size w W → (W.cell? ⟨b, o, none⟩ = some (.int .u8 x0) ∧ W.cell? ⟨b, o + 1, none⟩ = some (.int .u8 x1) ∧ W.cell? ⟨b, o + 4, none⟩ = some (.int .u8 x4) ∧ W.cell? ⟨b, o + 5, none⟩ = some (.int .u8 x5) ∧ W.cell? ⟨b, o + 6, none⟩ = some (.int .u8 x6) ∧ W.cell? ⟨b, o + 7, none⟩ = some (.int .u8 x7))) := Lib.hid fun W hW => ⟨(hW.cell (p := ⟨b, o, none⟩) hbl).trans d0, (hW.cell (p := ⟨b, o + 1, none⟩) hbl).trans d1, (hW.cell (p := ⟨b, o + 4, none⟩) hbl).trans d4, (hW.cell (p := ⟨b, o + 5, none⟩) hbl).trans d5, (hW.cell (p := ⟨b, o + 6, none⟩) hbl).trans d6, (hW.cell (p := ⟨b, o + 7, none⟩) hbl).trans d7⟩
  obtain ⟨Q, hQ⟩ : ∃ Q : World → Prop, (fun W => Below w.heap.size w W ∧ ∃ x y, W.heap[w.heap.size]? = some (.cells #[x, y] 32 (0, 0))) = Q := ⟨_, rfl⟩
  have HQ : Hid (∀ W, Q W ↔ Below w.heap.size w W ∧ ∃ x y, W.heap[w.heap.size]? = some (.cells #[x, y] 32 (0, 0))) := Lib.hid fun W => by rw [← hQ]
  have QB : Hid (∀ W W', Q W → Below W.heap.size W W' → Q W') := Lib.hid fun W W' hW hb => by
    rw [HQ.out] at hW ⊢
    obtain ⟨h1, x, y, h2⟩ := hW
    exact ⟨h1.trans (hb.mono h1.size), x, y, (hb.block _ (Array.getElem?_eq_some_iff.1 h2).1).trans h2⟩
  have PQ : Hid (∀ W x y, Q W → Q ((W.setCell ⟨w.heap.size, 0, none⟩ x).setCell ⟨w.heap.size, 1, none⟩ y)) := Lib.hid fun W x y hW => by
    rw [HQ.out] at hW ⊢
    obtain ⟨h1, x', y', h2⟩ := hW
    exact ⟨(h1.setCell (by show _ ≤ w.heap.size; omega) _).setCell (by show _ ≤ w.heap.size; omega) _, x, y, heap_setCell_same _ _ 1 _ _ _ (heap_setCell_same W _ 0 _ _ _ h2)⟩
  have hQp : Q wp := by rw [HQ.out]; exact ⟨hlow, _, _, hbx⟩
  have MK2 : Hid (∀ W, Q W → (W.cell? ⟨b, o, none⟩ = some (.int .u8 x0) ∧ W.cell? ⟨b, o + 1, none⟩ = some (.int .u8 x1) ∧ W.cell? ⟨b, o + 4, none⟩ = some (.int .u8 x4) ∧ W.cell? ⟨b, o + 5, none⟩ = some (.int .u8 x5) ∧ W.cell? ⟨b, o + 6, none⟩ = some (.int .u8 x6) ∧ W.cell? ⟨b, o + 7, none⟩ = some (.int .u8 x7)) ∧ Q W) := Lib.hid fun W hW => ⟨MK.out W ((HQ.out W).1 hW).1, hW⟩
  have LIT : Hid (∀ W : World, BAt (W.alloc (.cells #[.int .u8 y0, .int .u8 x1, .int .u8 x4, .int .u8 x5, .int .u8 x6, .int .u8 x7, .int .u8 y6, .int .u8 y7] 5)) (some ⟨W.heap.size, 0, none⟩) 8 L) := Lib.hid fun W => by
    rw [hihd]
    refine lit_bat (l := [y0, x1, x4, x5, x6, x7, y6, y7]) (heap_alloc_new W _) (fun q => ?_) (by simp)
    rcases q with _ | _ | _ | _ | _ | _ | _ | _ | q
    all_goals first | exact b0 | exact q1 | exact q4 | exact q5 | exact q6 | exact q7 | exact b6 | exact b7 | simp
  have BAL : Hid (∀ W : World, Below W.heap.size W (W.alloc (.cells #[.int .u8 y0, .int .u8 x1, .int .u8 x4, .int .u8 x5, .int .u8 x6, .int .u8 x7, .int .u8 y6, .int .u8 y7] 5))) := Lib.hid fun W => (Below.refl _ W).alloc (Nat.le_refl _) _
  have SAL : Hid (∀ W, (W.cell? ⟨b, o, none⟩ = some (.int .u8 x0) ∧ W.cell? ⟨b, o + 1, none⟩ = some (.int .u8 x1) ∧ W.cell? ⟨b, o + 4, none⟩ = some (.int .u8 x4) ∧ W.cell? ⟨b, o + 5, none⟩ = some (.int .u8 x5) ∧ W.cell? ⟨b, o + 6, none⟩ = some (.int .u8 x6) ∧ W.cell? ⟨b, o + 7, none⟩ = some (.int .u8 x7)) ∧ Q W → ((W.alloc (.cells #[.int .u8 y0, .int .u8 x1, .int .u8 x4, .int .u8 x5, .int .u8 x6, .int .u8 x7, .int .u8 y6, .int .u8 y7] 5)).cell? ⟨b, o, none⟩ = some (.int .u8 x0) ∧ (W.alloc (.cells #[.int .u8 y0, .int .u8 x1, .int .u8 x4, .int .u8 x5, .int .u8 x6, .int .u8 x7, .int .u8 y6, .int .u8 y7] 5)).cell? ⟨b, o + 1, none⟩ = some (.int .u8 x1) ∧ (W.alloc (.cells #[.int .u8 y0, .int .u8 x1, .int .u8 x4, .int .u8 x5, .int .u8 x6, .int .u8 x7, .int .u8 y6, .int .u8 y7] 5)).cell? ⟨b, o + 4, none⟩ = some (.int .u8 x4) ∧ (W.alloc (.cells #[.int .u8 y0, .int .u8 x1, .int .u8 x4, .int .u8 x5, .int .u8 x6, .int .u8 x7, .int .u8 y6, .int .u8 y7] 5)).cell? ⟨b, o + 5, none⟩ = some (.int .u8 x5) ∧ (W.alloc (.cells #[.int .u8 y0, .int .u8 x1, .int .u8 x4, .int .u8 x5, .int .u8 x6, .int .u8 x7, .int .u8 y6, .int .u8 y7] 5)).cell? ⟨b, o + 6, none⟩ = some (.int .u8 x6) ∧ (W.alloc (.cells #[.int .u8 y0, .int .u8 x1, .int .u8 x4, .int .u8 x5, .int .u8 x6, .int .u8 x7, .int .u8 y6, .int .u8 y7] 5)).cell? ⟨b, o + 7, none⟩ = some (.int .u8 x7)) ∧ Q (W.alloc (.cells #[.int .u8 y0, .int .u8 x1, .int .u8 x4, .int .u8 x5, .int .u8 x6, .int .u8 x7, .int .u8 y6, .int .u8 y7] 5))) := Lib.hid fun W hh => MK2.out _ (QB.out _ _ hh.2 (BAL.out W))
  have DR : Hid (∀ W : World, (W.cell? ⟨b, o, none⟩ = some (.int .u8 x0) ∧ W.cell? ⟨b, o + 1, none⟩ = some (.int .u8 x1) ∧ W.cell? ⟨b, o + 4, none⟩ = some (.int .u8 x4) ∧ W.cell? ⟨b, o + 5, none⟩ = some (.int .u8 x5) ∧ W.cell? ⟨b, o + 6, none⟩ = some (.int .u8 x6) ∧ W.cell? ⟨b, o + 7, none⟩ = some (.int .u8 x7)) ∧ Q W → (W.drew.cell? ⟨b, o, none⟩ = some (.int .u8 x0) ∧ W.drew.cell? ⟨b, o + 1, none⟩ = some (.int .u8 x1) ∧ W.drew.cell? ⟨b, o + 4, none⟩ = some (.int .u8 x4) ∧ W.drew.cell? ⟨b, o + 5, none⟩ = some (.int .u8 x5) ∧ W.drew.cell? ⟨b, o + 6, none⟩ = some (.int .u8 x6) ∧ W.drew.cell? ⟨b, o + 7, none⟩ = some (.int .u8 x7)) ∧ Q W.drew) := Lib.hid fun W hh => MK2.out _ (QB.out _ _ hh.2 (Below.refl _ W).drew)
  have hS0 := MK2.out _ hQp
  have HQC : Hid (∀ W, Q W → Below w.heap.size w W) := Lib.hid fun W hW => ((HQ.out W).1 hW).1
  have HQX : Hid (∀ W, Q W → ∃ x y, W.cell? ⟨w.heap.size, 0, none⟩ = some x ∧ W.cell? ⟨w.heap.size, 1, none⟩ = some y ∧ ∀ o, W.frozen? ⟨w.heap.size, o, none⟩ = false) := Lib.hid fun W hW => by
    obtain ⟨x, y, h⟩ := ((HQ.out W).1 hW).2
    refine ⟨x, y, ?_, ?_, fun o => frozen_of_row W _ o _ _ h⟩
    · rw [cell_of_row W _ 0 _ _ _ h]; rfl
    · rw [cell_of_row W _ 1 _ _ _ h]; rfl
  have PS' : Hid (∀ W x y, (W.cell? ⟨b, o, none⟩ = some (.int .u8 x0) ∧ W.cell? ⟨b, o + 1, none⟩ = some (.int .u8 x1) ∧ W.cell? ⟨b, o + 4, none⟩ = some (.int .u8 x4) ∧ W.cell? ⟨b, o + 5, none⟩ = some (.int .u8 x5) ∧ W.cell? ⟨b, o + 6, none⟩ = some (.int .u8 x6) ∧ W.cell? ⟨b, o + 7, none⟩ = some (.int .u8 x7)) ∧ Q W → (((W.setCell ⟨w.heap.size, 0, none⟩ x).setCell ⟨w.heap.size, 1, none⟩ y).cell? ⟨b, o, none⟩ = some (.int .u8 x0) ∧ ((W.setCell ⟨w.heap.size, 0, none⟩ x).setCell ⟨w.heap.size, 1, none⟩ y).cell? ⟨b, o + 1, none⟩ = some (.int .u8 x1) ∧ ((W.setCell ⟨w.heap.size, 0, none⟩ x).setCell ⟨w.heap.size, 1, none⟩ y).cell? ⟨b, o + 4, none⟩ = some (.int .u8 x4) ∧ ((W.setCell ⟨w.heap.size, 0, none⟩ x).setCell ⟨w.heap.size, 1, none⟩ y).cell? ⟨b, o + 5, none⟩ = some (.int .u8 x5) ∧ ((W.setCell ⟨w.heap.size, 0, none⟩ x).setCell ⟨w.heap.size, 1, none⟩ y).cell? ⟨b, o + 6, none⟩ = some (.int .u8 x6) ∧ ((W.setCell ⟨w.heap.size, 0, none⟩ x).setCell ⟨w.heap.size, 1, none⟩ y).cell? ⟨b, o + 7, none⟩ = some (.int .u8 x7)) ∧ Q ((W.setCell ⟨w.heap.size, 0, none⟩ x).setCell ⟨w.heap.size, 1, none⟩ y)) := Lib.hid fun W x y hh => MK2.out _ (PQ.out W x y hh.2)
  have HZW : Hid (w.heap.size < wp.heap.size) := Lib.hid (Array.getElem?_eq_some_iff.1 hbx).1
  clear h3 h4 hB2 k2 hz1 hz2 hlow hbx hr d0 d1 d4 d5 d6 d7 hihd hy0 hy6 hy7 hL hQ HPR hm hm12
  go_wp2_with fail
  clear hwp
  go_region_held3 (fun W : World => (W.cell? ⟨b, o, none⟩ = some (.int .u8 x0) ∧ W.cell? ⟨b, o + 1, none⟩ = some (.int .u8 x1) ∧ W.cell? ⟨b, o + 4, none⟩ = some (.int .u8 x4) ∧ W.cell? ⟨b, o + 5, none⟩ = some (.int .u8 x5) ∧ W.cell? ⟨b, o + 6, none⟩ = some (.int .u8 x6) ∧ W.cell? ⟨b, o + 7, none⟩ = some (.int .u8 x7)) ∧ Q W) (first | with_reducible assumption | with_reducible exact PS'.out _ _ _ (by with_reducible assumption) | with_reducible exact PS'.out _ _ _ (SAL.out _ (by with_reducible assumption)) | with_reducible exact DR.out _ (by with_reducible assumption) | with_reducible exact SAL.out _ (by with_reducible assumption) | with_reducible exact DR.out _ (SAL.out _ (by with_reducible assumption)))
    (first
      | (go_at_call 7
         (with_reducible refine (HCP.out _ (HQC.out _ (And.right (by with_reducible assumption)))).mono ?_)
         rintro e w3 ⟨a3, c3, rfl, hO3, hB3⟩
         have hS3 := MK2.out _ (QB.out _ _ (And.right (by with_reducible assumption)) hB3)
         obtain ⟨vx, vy, o0, o1, of⟩ := HQX.out _ hS3.2
         obtain ⟨vz, vt, p0, p1, pf⟩ := HQX.out _ (QB.out _ _ hS3.2 (BAL.out w3))))
  · have hsz := hB3.size
    have hzw := HZW.out
    simp at hsz
    have hd := ((LIT.out wp).below (Below.refl _ _).drew).below hB3
    have hbd := hO3.bat
    have hqq := hS3.2
    have hfin := HPOST.out (some ⟨wp.heap.size, 0, none⟩) 8 a3 c3 _ (bat_put2 hd (P := w.heap.size) (fun x hx => by cases hx; show wp.heap.size ≠ _; omega) (.slice (some ⟨wp.heap.size, 0, none⟩) 8 8) (.slice a3 m12 c3)) (bat_put2 hbd (P := w.heap.size) (fun x hx => by have := (hO3.blk x hx).1; simp at this; omega) (.slice (some ⟨wp.heap.size, 0, none⟩) 8 8) (.slice a3 m12 c3)) (HQC.out _ (PQ.out _ _ _ hqq))
    obtain ⟨_, rx, ry, hrow⟩ := (HQ.out _).1 hqq
    have hr5 : ((w3.setCell ⟨w.heap.size, 0, none⟩ (.slice (some ⟨wp.heap.size, 0, none⟩) 8 8)).setCell ⟨w.heap.size, 1, none⟩ (.slice a3 m12 c3)).heap[w.heap.size]? = some (.cells #[.slice (some ⟨wp.heap.size, 0, none⟩) 8 8, .slice a3 m12 c3] 32 (0, 0)) := heap_setCell_same _ _ 1 _ _ _ (heap_setCell_same w3 _ 0 _ _ _ hrow)
    obtain ⟨w5, hw5⟩ : ∃ w5, (w3.setCell ⟨w.heap.size, 0, none⟩ (.slice (some ⟨wp.heap.size, 0, none⟩) 8 8)).setCell ⟨w.heap.size, 1, none⟩ (.slice a3 m12 c3) = w5 := ⟨_, rfl⟩
    rw [hw5] at hfin hr5 ⊢
    have k0 : w5.cell? ⟨w.heap.size, 0, none⟩ = some (.slice (some ⟨wp.heap.size, 0, none⟩) 8 8) := by rw [cell_of_row w5 _ 0 _ _ _ hr5]; rfl
    have k1 : w5.cell? ⟨w.heap.size, 1, none⟩ = some (.slice a3 m12 c3) := by rw [cell_of_row w5 _ 1 _ _ _ hr5]; rfl
    have HFIN := Lib.hid hfin
    clear hfin hr5 hrow hd hbd hqq hO3 hB3 hw5
    go_wp2
    exact bodyPost_ret (v := .tuple #[.agg #[.slice (some ⟨wp.heap.size, 0, none⟩) 8 8, .slice a3 m12 c3], .int .i64 0]) (by simp [results, Try.results9, k0, k1, go_sem]) rfl HFIN.out
  all_goals
    have hsz := hB3.size
    have hzw := HZW.out
    simp at hsz
    have hd := LIT.out w3
    have hbd := hO3.bat.below (BAL.out w3)
    have hqq := QB.out _ _ hS3.2 (BAL.out w3)
    have hfin := HPOST.out (some ⟨w3.heap.size, 0, none⟩) 8 a3 c3 _ (bat_put2 hd (P := w.heap.size) (fun x hx => by cases hx; show w3.heap.size ≠ _; omega) (.slice (some ⟨w3.heap.size, 0, none⟩) 8 8) (.slice a3 m12 c3)) (bat_put2 hbd (P := w.heap.size) (fun x hx => by have := (hO3.blk x hx).1; simp at this; omega) (.slice (some ⟨w3.heap.size, 0, none⟩) 8 8) (.slice a3 m12 c3)) (HQC.out _ (PQ.out _ _ _ hqq))
    obtain ⟨_, rx, ry, hrow⟩ := (HQ.out _).1 hqq
    have hr5 : (((w3.alloc (.cells #[.int .u8 y0, .int .u8 x1, .int .u8 x4, .int .u8 x5, .int .u8 x6, .int .u8 x7, .int .u8 y6, .int .u8 y7] 5)).setCell ⟨w.heap.size, 0, none⟩ (.slice (some ⟨w3.heap.size, 0, none⟩) 8 8)).setCell ⟨w.heap.size, 1, none⟩ (.slice a3 m12 c3)).heap[w.heap.size]? = some (.cells #[.slice (some ⟨w3.heap.size, 0, none⟩) 8 8, .slice a3 m12 c3] 32 (0, 0)) := heap_setCell_same _ _ 1 _ _ _ (heap_setCell_same (w3.alloc (.cells #[.int .u8 y0, .int .u8 x1, .int .u8 x4, .int .u8 x5, .int .u8 x6, .int .u8 x7, .int .u8 y6, .int .u8 y7] 5)) _ 0 _ _ _ hrow)
    obtain ⟨w5, hw5⟩ : ∃ w5, ((w3.alloc (.cells #[.int .u8 y0, .int .u8 x1, .int .u8 x4, .int .u8 x5, .int .u8 x6, .int .u8 x7, .int .u8 y6, .int .u8 y7] 5)).setCell ⟨w.heap.size, 0, none⟩ (.slice (some ⟨w3.heap.size, 0, none⟩) 8 8)).setCell ⟨w.heap.size, 1, none⟩ (.slice a3 m12 c3) = w5 := ⟨_, rfl⟩
    rw [hw5] at hfin hr5 ⊢
    have k0 : w5.cell? ⟨w.heap.size, 0, none⟩ = some (.slice (some ⟨w3.heap.size, 0, none⟩) 8 8) := by rw [cell_of_row w5 _ 0 _ _ _ hr5]; rfl
    have k1 : w5.cell? ⟨w.heap.size, 1, none⟩ = some (.slice a3 m12 c3) := by rw [cell_of_row w5 _ 1 _ _ _ hr5]; rfl
    have HFIN := Lib.hid hfin
    clear hfin hr5 hrow hd hbd hqq hO3 hB3 hw5
    go_wp2
    exact bodyPost_ret (v := .tuple #[.agg #[.slice (some ⟨w3.heap.size, 0, none⟩) 8 8, .slice a3 m12 c3], .int .i64 0]) (by simp [results, Try.results9, k0, k1, go_sem]) rfl HFIN.out
end Go.Proofs.Ytppgjodehphaeaa


/-
  ImprintOf: the walk.
-/
import Derived.Test.YtppgjodehphaeaaIbROf
import Derived.Test.YtppgjodehphaeaaIbLike
import Derived.Test.YtppgjodehphaeaaIbAlPlain
namespace Go.Proofs.Ytppgjodehphaeaa
open Go.RowKit Go.Shelf
set_option linter.unusedVariables false
set_option linter.unusedSimpArgs false
/-- The loop's state: the imprint's body has changed bytes, all else is as it was. -/
structure LI (w W : World) (a : Option Addr) (n : Nat) (l : List Int) (P : Nat) (q0 q1 q2 q3 q4 q5 q6 q7 : Int) (B : Nat) (ax : Option Addr) (m cx : Nat) (l' : List Int) : Prop where
  mine : BAt W a n l
  box : Bx W P q0 q1 q2 q3 q4 q5 q6 q7 ax m cx
  body : Own W B ax m cx l'
  low : Below w.heap.size w W
  h1 : ∀ y z, a = some y → ax = some z → y.block ≠ z.block
  h2 : ∀ z, ax = some z → z.block ≠ P
  h3 : w.heap.size ≤ B
theorem LI.below {w W W' : World} {a : Option Addr} {n : Nat} {l : List Int} {P : Nat} {q0 q1 q2 q3 q4 q5 q6 q7 : Int} {B : Nat} {ax : Option Addr} {m cx : Nat} {l' : List Int} (h : LI w W a n l P q0 q1 q2 q3 q4 q5 q6 q7 B ax m cx l') (hb : Below W.heap.size W W') : LI w W' a n l P q0 q1 q2 q3 q4 q5 q6 q7 B ax m cx l' :=
  ⟨h.mine.below hb, h.box.below hb, h.body.below hb, h.low.trans (hb.mono h.low.size), h.h1, h.h2, h.h3⟩
theorem LI.set {w W : World} {a : Option Addr} {n : Nat} {l : List Int} {P : Nat} {q0 q1 q2 q3 q4 q5 q6 q7 : Int} {B g : Nat} {m cx : Nat} {l' : List Int} (h : LI w W a n l P q0 q1 q2 q3 q4 q5 q6 q7 B (some ⟨g, 0, none⟩) m cx l') (k : Nat) (y : Int) (hy : 0 ≤ y ∧ y < 256) : LI w (W.setCell ⟨g, k, none⟩ (.int .u8 y)) a n l P q0 q1 q2 q3 q4 q5 q6 q7 B (some ⟨g, 0, none⟩) m cx (l'.set k y) := by
  have hg : W.grownBy (W.setCell ⟨g, k, none⟩ (.int .u8 y)) (some g) := ⟨rfl, rfl, rfl, by simp, fun j _ hj => Below.heap_setCell W _ _ j (fun e => hj (by rw [e]))⟩
  have hgB := (h.body.blk _ rfl).1
  have h2 := h.h2 _ rfl
  refine ⟨h.mine.same hg.size (fun x _ hx hlt => hg.block _ hlt (fun e => h.h1 x _ hx rfl (by injection e))), (hg.block P h.box.size (fun e => h2 (by injection e with e; exact e.symm))).trans h.box, h.body.set k _ hy, h.low.grown hg h.low.size (fun j e => ?_), h.h1, h.h2, h.h3⟩
  cases e; have := h.h3; simp at hgB; omega
set_option maxHeartbeats 1000000 in
set_option maxRecDepth 100000 in
theorem walk_ImprintOf (a : Option Addr) (n c : Nat) (l : List Int) (w : World) (ha : BAt w a n l) (hac : n ≤ c) :
    Calls Try.prog 3 #[.slice a n c] w (TrueA w) := by
  have HA := Lib.hid ha
  have hl1 := ha.lim
  have HCP : Hid (n ≤ 140737488355327 → ∀ W, Below w.heap.size w W → Calls Try.prog 7 #[.slice a n c] W (NewB n l W)) := Lib.hid fun h W hW => copy_any a n c l W (ha.below hW) h
  have HRO : Hid (∀ W, Below w.heap.size w W → Calls Try.prog 9 #[.slice a n c] W (ROfOut n l W)) := Lib.hid fun W hW => rof_any a n c l W (ha.below hW) hac
  clear ha
  go_enter Try.func3, Try.ntmps3
  go_wp2_with fail
  refine (ialive _).mono ?_
  rintro e w1 ⟨rfl, hB1⟩
  have HB1 := Lib.hid hB1; clear hB1
  by_cases h1 : 2000 < n
  · have h1z : (2000 : Int) < (n : Int) := by omega
    go_wp2_with fail
    go_ret
    exact ⟨rfl, HB1.out⟩
  have h1z : ¬ (2000 : Int) < (n : Int) := by omega
  go_wp2_with fail
  refine (HCP.out (by omega) _ HB1.out).mono ?_
  rintro e w2 ⟨a2, c2, rfl, hO2, hB2⟩
  have HB2 := Lib.hid (HB1.out.trans (hB2.mono HB1.out.size))
  have HM2 := Lib.hid hO2
  have hz1 := HB1.out.size
  clear hB2 hO2 HCP
  go_wp2_with fail
  refine (of_any a2 n c2 l w2 HM2.out.bat HM2.out.cap7).mono ?_
  rintro e w3 ⟨h3, h4⟩
  by_cases hf : pcodeF n l = 0
  case neg =>
    obtain ⟨rfl, hB3⟩ := h3 hf
    have hfb : (pcodeF n l == 0) = false := by simpa using hf
    obtain ⟨wx, hwx⟩ : ∃ u, w3.alloc (.cells #[.int .u8 0, .int .u8 0, .int .u8 0, .int .u8 0, .int .u8 0, .int .u8 0, .int .u8 0, .int .u8 0, .slice none 0 0] 27) = u := ⟨_, rfl⟩
    have k3 : Below w3.heap.size w3 wx := by rw [← hwx]; exact (Below.refl _ w3).alloc (Nat.le_refl _) _
    have HX3 : Hid (Bx wx w3.heap.size 0 0 0 0 0 0 0 0 none 0 0) := Lib.hid (by rw [← hwx]; unfold Bx; exact lit_new rfl)
    have HB3 := Lib.hid (HB2.out.trans ((hB3.trans (k3.mono hB3.size)).mono HB2.out.size))
    have HM3 := Lib.hid ((HM2.out.below hB3).below k3)
    have HWX := Lib.hid hwx
    clear h3 h4 hB3 k3 HB2 HM2 hwx
    go_wp2_with fail
    rw [HWX.out]
    refine (HRO.out _ HB3.out).mono ?_
    rintro e w4 ⟨h5, _⟩
    obtain ⟨ah, ch, rfl, hH, hB4⟩ := h5 hf
    have HX4 := Lib.hid (HX3.out.below hB4)
    have HB4 := Lib.hid (HB3.out.trans (hB4.mono HB3.out.size))
    have HM4 := Lib.hid (HM3.out.below hB4)
    have HH := Lib.hid hH
    clear h5 hH hB4 HX3 HB3 HM3 HRO hf
    generalize pcodeF n l = f at *
    generalize w3.heap.size = P at *
    obtain ⟨wy, hwy⟩ : ∃ u, w4.alloc (.cells #[.slice ah 8 ch, .slice none 0 0] 32) = u := ⟨_, rfl⟩
    have k4 : Below w4.heap.size w4 wy := by rw [← hwy]; exact (Below.refl _ w4).alloc (Nat.le_refl _) _
    have HX5 := Lib.hid (HX4.out.below k4)
    have hy5 : wy.heap[w4.heap.size]? = some (.cells #[.slice ah 8 ch, .slice none 0 0] 32 (0, 0)) := by rw [← hwy]; exact lit_new rfl
    have y0 : wy.cell? ⟨w4.heap.size, 0, none⟩ = some (.slice ah 8 ch) := by rw [cell_of_row wy _ 0 _ _ _ hy5]; rfl
    have y1 : wy.cell? ⟨w4.heap.size, 1, none⟩ = some (.slice none 0 0) := by rw [cell_of_row wy _ 1 _ _ _ hy5]; rfl
    have hxc := HX5.out.cs
    rw [← hwy] at hxc y0 y1
    obtain ⟨x0, x1, x2, x3, x4, x5, x6, x7, x8⟩ := hxc
    have HB5 := Lib.hid (HB4.out.trans (k4.mono HB4.out.size))
    have HM5 := Lib.hid (HM4.out.below k4)
    have HLK := like_any 0 0 0 0 0 0 0 0 none ah none 0 0 8 ch 0 0 [] [0, 0, 0, 0, 0, 0, 0, 0] [] wy (BAt.none _) (HH.out.below k4) (BAt.none _) (by decide) (by decide) (by decide) (by decide) (by decide) (by decide) (by decide) (by decide)
    rw [show (decide ([(0 : Int), 0, 0, 0, 0, 0, 0, 0] = [0, 0, 0, 0, 0, 0, 0, 0]) && decide (([] : List Int) = [])) = true from by decide] at HLK
    have HLK := Lib.hid HLK
    have HWY := Lib.hid hwy
    clear k4 hy5 hwy HB4 HM4 HX4 HH
    go_wp2_with fail
    rw [HWY.out]
    refine (HLK.out).mono ?_
    rintro e w6 ⟨rfl, hB6⟩
    have HX6 := Lib.hid (HX5.out.below hB6)
    have HB6 := Lib.hid (HB5.out.trans (hB6.mono HB5.out.size))
    have HM6 := Lib.hid (HM5.out.below hB6)
    clear x0 x1 x2 x3 x4 x5 x6 x7 x8 y0 y1 HX5 HB5 HM5 hB6 HLK HWY
    obtain ⟨x0, x1, x2, x3, x4, x5, x6, x7, x8⟩ := HX6.out.cs
    go_wp2_with fail
    go_loopw [50] (fun iv wr => iv = .int .i64 0 ∧ wr = w6) (fun _ _ => 0)
    case atStart => exact ⟨rfl, rfl⟩
    case round =>
      obtain ⟨rfl, rfl⟩ := hrel
      go_wp2_with fail
      refine (same_any a2 a n n c2 c l l _ HM6.out.bat (HA.out.below HB6.out)).mono ?_
      rintro e w9 ⟨rfl, kd, rfl⟩
      rw [decide_eq_true (rfl : l = l)]
      have HB9 := Lib.hid (HB6.out.trans ((below_drewN _ _ kd).mono HB6.out.size))
      go_wp2_with fail
      go_ret
      exact ⟨rfl, HB9.out⟩
  obtain ⟨ax, cx, rfl, hO3, hB3⟩ := h4 hf
  have hl := pcodeF_long hf
  have hln := HA.out.len
  have hok := HA.out.ok
  have hbd0 := hok 0; have hbd1 := hok 1; have hbd4 := hok 4; have hbd5 := hok 5; have hbd6 := hok 6; have hbd7 := hok 7
  have HPO : Hid (∀ W e w', ROfOut n l W e w' → ∃ ah ch ab cb, e = .returned (.tuple #[.agg #[.slice ah 8 ch, .slice ab (n - 12) cb], .int .i64 0]) ∧ BAt w' ah 8 (ihd l) ∧ BAt w' ab (n - 12) (l.drop 12) ∧ Below W.heap.size W w') := Lib.hid fun W e w' h => h.2 hf
  unfold ihd at HPO ⊢
  simp only [ibc, List.getD_cons_zero, List.getD_cons_succ]
  rw [hln] at HPO hO3 ⊢
  obtain ⟨q0, hq0⟩ : ∃ q, l.getD 0 0 % 64 = q := ⟨_, rfl⟩
  obtain ⟨q1, hq1⟩ : ∃ q, l.getD 1 0 = q := ⟨_, rfl⟩
  obtain ⟨q2, hq2⟩ : ∃ q, l.getD 4 0 = q := ⟨_, rfl⟩
  obtain ⟨q3, hq3⟩ : ∃ q, l.getD 5 0 = q := ⟨_, rfl⟩
  obtain ⟨q4, hq4⟩ : ∃ q, l.getD 6 0 = q := ⟨_, rfl⟩
  obtain ⟨q5, hq5⟩ : ∃ q, l.getD 7 0 = q := ⟨_, rfl⟩
  obtain ⟨n12, hn12⟩ : ∃ k, n - 12 = k := ⟨_, rfl⟩
  rw [hn12] at HPO hO3 ⊢
  obtain ⟨q6, hq6⟩ : ∃ q, (n12 : Int) / 256 = q := ⟨_, rfl⟩
  obtain ⟨q7, hq7⟩ : ∃ q, (n12 : Int) % 256 = q := ⟨_, rfl⟩
  have b0 : 0 ≤ q0 ∧ q0 < 256 := by omega
  have b6 : 0 ≤ q6 ∧ q6 < 256 := by omega
  have b7 : 0 ≤ q7 ∧ q7 < 256 := by omega
  rw [hq0, hq1, hq2, hq3, hq4, hq5, hq6, hq7] at HPO ⊢
  rw [hq1] at hbd1; rw [hq2] at hbd4; rw [hq3] at hbd5; rw [hq4] at hbd6; rw [hq5] at hbd7
  obtain ⟨db, hdb⟩ : ∃ d, l.drop 12 = d := ⟨_, rfl⟩
  rw [hdb] at HPO hO3
  have hlen67 : q6 * 256 + q7 = (n : Int) - 12 := by omega
  have hn12b : n12 ≤ 1488 ∧ 12 + n12 = n := by omega
  clear hq0 hq1 hq2 hq3 hq4 hq5 hq6 hq7 hbd0 hdb hln hok h3 h4 hf hn12
  have HMB : Hid (∀ y, a2 = some y → y.block < w2.heap.size) := Lib.hid fun y hy => (HM2.out.blk y hy).2
  have HM3 := Lib.hid (HM2.out.below hB3)
  have HO3 := Lib.hid hO3
  have HB3 := Lib.hid (HB2.out.trans (hB3.mono HB2.out.size))
  clear hO3 hB3 HM2
  obtain ⟨wx, hwx⟩ : ∃ u, w3.alloc (.cells #[.int .u8 q0, .int .u8 q1, .int .u8 q2, .int .u8 q3, .int .u8 q4, .int .u8 q5, .int .u8 q6, .int .u8 q7, .slice ax n12 cx] 27) = u := ⟨_, rfl⟩
  have k3 : Below w3.heap.size w3 wx := by rw [← hwx]; exact (Below.refl _ w3).alloc (Nat.le_refl _) _
  have HX4 : Hid (Bx wx w3.heap.size q0 q1 q2 q3 q4 q5 q6 q7 ax n12 cx) := Lib.hid (by rw [← hwx]; unfold Bx; exact lit_new rfl)
  have HB4 := Lib.hid (HB3.out.trans (k3.mono HB3.out.size))
  have HM4 := Lib.hid (HM3.out.below k3); have HO4 := Lib.hid (HO3.out.below k3)
  have HWX := Lib.hid hwx
  have HLI0 : Hid (LI w wx a2 n l w3.heap.size q0 q1 q2 q3 q4 q5 q6 q7 w2.heap.size ax n12 cx db) := Lib.hid ⟨HM4.out.bat, HX4.out, HO4.out, HB4.out, fun y z hy hz => by have := HMB.out y hy; have := (HO4.out.blk z hz).1; omega, fun z hz => by have := (HO3.out.blk z hz).2; omega, HB2.out.size⟩
  clear hwx k3 HB3 HM3 HO3
  go_wp2_with fail
  rw [HWX.out]
  refine (HRO.out _ HB4.out).mono ?_
  intro e w4 h4
  obtain ⟨ah, ch, ab, cb, rfl, hH, hA, hB⟩ := HPO.out _ _ _ h4
  have HL5 := Lib.hid (HLI0.out.below hB)
  have HH := Lib.hid hH; have HAB := Lib.hid hA
  clear h4 hH hA hB HX4 HB4 HM4 HO4 HRO HPO HLI0 HWX HMB HB2
  generalize w3.heap.size = P at *
  generalize w2.heap.size = B at *
  obtain ⟨wy, hwy⟩ : ∃ u, w4.alloc (.cells #[.slice ah 8 ch, .slice ab n12 cb] 32) = u := ⟨_, rfl⟩
  have k4 : Below w4.heap.size w4 wy := by rw [← hwy]; exact (Below.refl _ w4).alloc (Nat.le_refl _) _
  have HL6 := Lib.hid (HL5.out.below k4)
  have hy5 : wy.heap[w4.heap.size]? = some (.cells #[.slice ah 8 ch, .slice ab n12 cb] 32 (0, 0)) := by rw [← hwy]; exact lit_new rfl
  have y0 : wy.cell? ⟨w4.heap.size, 0, none⟩ = some (.slice ah 8 ch) := by rw [cell_of_row wy _ 0 _ _ _ hy5]; rfl
  have y1 : wy.cell? ⟨w4.heap.size, 1, none⟩ = some (.slice ab n12 cb) := by rw [cell_of_row wy _ 1 _ _ _ hy5]; rfl
  have hxc := HL6.out.box.cs
  rw [← hwy] at hxc y0 y1
  obtain ⟨x0, x1, x2, x3, x4, x5, x6, x7, x8⟩ := hxc
  have hlk := like_any q0 q1 q2 q3 q4 q5 q6 q7 ax ah ab n12 cx 8 ch n12 cb db [q0, q1, q2, q3, q4, q5, q6, q7] db wy HL6.out.body.bat (HH.out.below k4) (HAB.out.below k4) b0 hbd1 hbd4 hbd5 hbd6 hbd7 b6 b7
  rw [show (decide ([q0, q1, q2, q3, q4, q5, q6, q7] = [q0, q1, q2, q3, q4, q5, q6, q7]) && decide (db = db)) = true from by simp] at hlk
  have HLK := Lib.hid hlk
  have HWY := Lib.hid hwy
  clear k4 hy5 hwy HL5 HH HAB hlk
  go_wp2_with fail
  rw [HWY.out]
  refine (HLK.out).mono ?_
  rintro e w6 ⟨rfl, hB6⟩
  have HL7 := Lib.hid (HL6.out.below hB6)
  clear x0 x1 x2 x3 x4 x5 x6 x7 x8 y0 y1 HL6 hB6 HLK HWY
  obtain ⟨x0, x1, x2, x3, x4, x5, x6, x7, x8⟩ := HL7.out.box.cs
  have HLE := Lib.hid (length_any q0 q1 q2 q3 q4 q5 q6 q7 ax n12 cx w6 b6 b7)
  rw [hlen67] at HLE
  have hsub : IntKind.i64.wrap ((n : Int) - 12) = (n : Int) - 12 := IntWalk.i64_in _ (by omega)
  go_wp2_with fail
  refine (HLE.out).mono ?_
  rintro e w7 ⟨rfl, hB7⟩
  have HL8 := Lib.hid (HL7.out.below hB7)
  clear x0 x1 x2 x3 x4 x5 x6 x7 x8 HL7 hB7 HLE
  obtain ⟨x0, x1, x2, x3, x4, x5, x6, x7, x8⟩ := HL8.out.box.cs
  go_wp2_with fail
  go_loopw [50] (fun iv wr => ∃ (k : Nat) (l' : List Int), k ≤ n12 ∧ iv = .int .i64 k ∧ Hid (LI w wr a2 n l P q0 q1 q2 q3 q4 q5 q6 q7 B ax n12 cx l')) (fun iv _ => n12 - (intOf iv).toNat)
  case atStart => exact ⟨0, db, Nat.zero_le _, rfl, HL8⟩
  case round =>
    obtain ⟨k, l', hk, rfl, HQ⟩ := hrel
    clear x0 x1 x2 x3 x4 x5 x6 x7 x8 HL8
    by_cases hlt : k < n12
    · have hltz : (k : Int) < (n12 : Int) := by omega
      obtain ⟨g, rfl⟩ := HQ.out.body.form (by omega)
      have x8 := HQ.out.box.cs.2.2.2.2.2.2.2.2
      have dR := HQ.out.body.row.cellAt k (by omega)
      have dF := HQ.out.body.row.frozenAt k
      have hlen' := HQ.out.body.len
      rw [List.getElem?_map, List.getElem?_eq_getElem (by omega), Option.map_some] at dR
      have hxb := HQ.out.body.ok k
      have hx : l'[k] = l'.getD k 0 := by rw [List.getD_eq_getElem?_getD, List.getElem?_eq_getElem (by omega)]; rfl
      rw [hx] at dR
      generalize l'.getD k 0 = x at dR hxb
      have hyb : 0 ≤ IntKind.u8.wrap (x + 1) ∧ IntKind.u8.wrap (x + 1) < 256 := by
        have hu : ∀ z : Int, IntKind.u8.wrap z = z % 256 := fun z => by simp [IntKind.wrap, IntKind.bits, IntKind.signed]
        rw [hu]; omega
      obtain ⟨y, hy⟩ : ∃ y, IntKind.u8.wrap (x + 1) = y := ⟨_, rfl⟩
      rw [hy] at hyb
      have HN := Lib.hid (HQ.out.set k y hyb)
      clear hx hlen'
      go_wp2_with fail
      go_roundw
      case rel => exact ⟨k + 1, _, by omega, by go_num, HN⟩
      case measure => simp [intOf]; omega
    · have hltz : ¬ (k : Int) < (n12 : Int) := by omega
      go_wp2_with fail
      refine (same_any a2 a n n c2 c l l _ HQ.out.mine (HA.out.below HQ.out.low)).mono ?_
      rintro e w9 ⟨rfl, kd, rfl⟩
      rw [decide_eq_true (rfl : l = l)]
      have HB9 := Lib.hid (HQ.out.low.trans ((below_drewN _ _ kd).mono HQ.out.low.size))
      go_wp2_with fail
      go_ret
      exact ⟨rfl, HB9.out⟩
end Go.Proofs.Ytppgjodehphaeaa

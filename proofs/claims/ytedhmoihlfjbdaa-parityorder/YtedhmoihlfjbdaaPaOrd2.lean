/-
  confluxref09.SameRepair.
-/
import Derived.Test.YtedhmoihlfjbdaaPaIter
import Derived.Test.YtedhmoihlfjbdaaIbSame
import Derived.Test.YtedhmoihlfjbdaaStrRef2
import Derived.Test.YtedhmoihlfjbdaaPaQ5
namespace Go.Proofs.Ytedhmoihlfjbdaa
open Go.RowKit Go.Shelf
set_option linter.unusedVariables false
theorem bcomp' {A B C : World} (h : Below A.heap.size A B) (h' : Below B.heap.size B C) : Below A.heap.size A C := h.trans (h'.mono h.size)
set_option maxHeartbeats 2000000 in
set_option maxRecDepth 100000 in
theorem samerep_any (q r : Nat → Int) (BB H L B2 H2 L2 : Int) (a a2 : Option Addr) (n c n2 c2 : Nat) (l l2 : List Int) (w : World) (hb : BAt w a n l) (hb2 : BAt w a2 n2 l2) :
    Calls Try.prog 19 #[.agg #[.int .u8 (q 0), .int .u8 (q 1), .int .u8 (q 2), .int .u8 (q 3), .int .u8 (q 4), .int .u8 (q 5), .int .u8 (q 6), .int .u8 (q 7), .int .u16 BB, .int .u64 H, .int .u64 L, .slice a n c], .agg #[.int .u8 (r 0), .int .u8 (r 1), .int .u8 (r 2), .int .u8 (r 3), .int .u8 (r 4), .int .u8 (r 5), .int .u8 (r 6), .int .u8 (r 7), .int .u16 B2, .int .u64 H2, .int .u64 L2, .slice a2 n2 c2]] w (ValB (.bool (decide ([q 0, q 1, q 2, q 3, q 4, q 5, q 6, q 7] = [r 0, r 1, r 2, r 3, r 4, r 5, r 6, r 7]) && ((BB == B2) && ((H == H2) && ((L == L2) && decide (l = l2)))))) w) := by
  obtain ⟨v, hv⟩ : ∃ u, (w.alloc (.cells #[.int .u8 (q 0), .int .u8 (q 1), .int .u8 (q 2), .int .u8 (q 3), .int .u8 (q 4), .int .u8 (q 5), .int .u8 (q 6), .int .u8 (q 7), .int .u16 BB, .int .u64 H, .int .u64 L, .slice a n c] 32)).alloc (.cells #[.int .u8 (r 0), .int .u8 (r 1), .int .u8 (r 2), .int .u8 (r 3), .int .u8 (r 4), .int .u8 (r 5), .int .u8 (r 6), .int .u8 (r 7), .int .u16 B2, .int .u64 H2, .int .u64 L2, .slice a2 n2 c2] 32) = u := ⟨_, rfl⟩
  have hwv : Below w.heap.size w v := by rw [← hv]; exact ((Below.refl _ w).alloc (Nat.le_refl _) _).alloc (by simp) _
  have hr1 : v.heap[w.heap.size]? = some (.cells #[.int .u8 (q 0), .int .u8 (q 1), .int .u8 (q 2), .int .u8 (q 3), .int .u8 (q 4), .int .u8 (q 5), .int .u8 (q 6), .int .u8 (q 7), .int .u16 BB, .int .u64 H, .int .u64 L, .slice a n c] 32 (0, 0)) := by rw [← hv]; exact lit_old rfl
  have hr2 : v.heap[w.heap.size + 1]? = some (.cells #[.int .u8 (r 0), .int .u8 (r 1), .int .u8 (r 2), .int .u8 (r 3), .int .u8 (r 4), .int .u8 (r 5), .int .u8 (r 6), .int .u8 (r 7), .int .u16 B2, .int .u64 H2, .int .u64 L2, .slice a2 n2 c2] 32 (0, 0)) := by rw [← hv]; have := heap_alloc_new (w.alloc (.cells #[.int .u8 (q 0), .int .u8 (q 1), .int .u8 (q 2), .int .u8 (q 3), .int .u8 (q 4), .int .u8 (q 5), .int .u8 (q 6), .int .u8 (q 7), .int .u16 BB, .int .u64 H, .int .u64 L, .slice a n c] 32)) (.cells #[.int .u8 (r 0), .int .u8 (r 1), .int .u8 (r 2), .int .u8 (r 3), .int .u8 (r 4), .int .u8 (r 5), .int .u8 (r 6), .int .u8 (r 7), .int .u16 B2, .int .u64 H2, .int .u64 L2, .slice a2 n2 c2] 32); simpa using this
  have h8 := eq8 (q 0) (q 1) (q 2) (q 3) (q 4) (q 5) (q 6) (q 7) (r 0) (r 1) (r 2) (r 3) (r 4) (r 5) (r 6) (r 7)
  generalize decide ([q 0, q 1, q 2, q 3, q 4, q 5, q 6, q 7] = [r 0, r 1, r 2, r 3, r 4, r 5, r 6, r 7]) = e8 at *
  have HSA := Lib.hid fun W (hW : Below v.heap.size v W) => same_any a a2 n n2 c c2 l l2 W ((hb.below hwv).below hW) ((hb2.below hwv).below hW)
  have HWV := Lib.hid hwv; have HV := Lib.hid hv
  have r0 : v.cell? ⟨w.heap.size, 0, none⟩ = some (.int .u8 (q 0)) := by rw [cell_of_row v _ 0 _ _ _ hr1]; rfl
  have r1 : v.cell? ⟨w.heap.size, 1, none⟩ = some (.int .u8 (q 1)) := by rw [cell_of_row v _ 1 _ _ _ hr1]; rfl
  have r2 : v.cell? ⟨w.heap.size, 2, none⟩ = some (.int .u8 (q 2)) := by rw [cell_of_row v _ 2 _ _ _ hr1]; rfl
  have r3 : v.cell? ⟨w.heap.size, 3, none⟩ = some (.int .u8 (q 3)) := by rw [cell_of_row v _ 3 _ _ _ hr1]; rfl
  have r4 : v.cell? ⟨w.heap.size, 4, none⟩ = some (.int .u8 (q 4)) := by rw [cell_of_row v _ 4 _ _ _ hr1]; rfl
  have r5 : v.cell? ⟨w.heap.size, 5, none⟩ = some (.int .u8 (q 5)) := by rw [cell_of_row v _ 5 _ _ _ hr1]; rfl
  have r6 : v.cell? ⟨w.heap.size, 6, none⟩ = some (.int .u8 (q 6)) := by rw [cell_of_row v _ 6 _ _ _ hr1]; rfl
  have r7 : v.cell? ⟨w.heap.size, 7, none⟩ = some (.int .u8 (q 7)) := by rw [cell_of_row v _ 7 _ _ _ hr1]; rfl
  have r8 : v.cell? ⟨w.heap.size, 8, none⟩ = some (.int .u16 BB) := by rw [cell_of_row v _ 8 _ _ _ hr1]; rfl
  have r9 : v.cell? ⟨w.heap.size, 9, none⟩ = some (.int .u64 H) := by rw [cell_of_row v _ 9 _ _ _ hr1]; rfl
  have r10 : v.cell? ⟨w.heap.size, 10, none⟩ = some (.int .u64 L) := by rw [cell_of_row v _ 10 _ _ _ hr1]; rfl
  have r11 : v.cell? ⟨w.heap.size, 11, none⟩ = some (.slice a n c) := by rw [cell_of_row v _ 11 _ _ _ hr1]; rfl
  have m0 : v.cell? ⟨w.heap.size + 1, 0, none⟩ = some (.int .u8 (r 0)) := by rw [cell_of_row v _ 0 _ _ _ hr2]; rfl
  have m1 : v.cell? ⟨w.heap.size + 1, 1, none⟩ = some (.int .u8 (r 1)) := by rw [cell_of_row v _ 1 _ _ _ hr2]; rfl
  have m2 : v.cell? ⟨w.heap.size + 1, 2, none⟩ = some (.int .u8 (r 2)) := by rw [cell_of_row v _ 2 _ _ _ hr2]; rfl
  have m3 : v.cell? ⟨w.heap.size + 1, 3, none⟩ = some (.int .u8 (r 3)) := by rw [cell_of_row v _ 3 _ _ _ hr2]; rfl
  have m4 : v.cell? ⟨w.heap.size + 1, 4, none⟩ = some (.int .u8 (r 4)) := by rw [cell_of_row v _ 4 _ _ _ hr2]; rfl
  have m5 : v.cell? ⟨w.heap.size + 1, 5, none⟩ = some (.int .u8 (r 5)) := by rw [cell_of_row v _ 5 _ _ _ hr2]; rfl
  have m6 : v.cell? ⟨w.heap.size + 1, 6, none⟩ = some (.int .u8 (r 6)) := by rw [cell_of_row v _ 6 _ _ _ hr2]; rfl
  have m7 : v.cell? ⟨w.heap.size + 1, 7, none⟩ = some (.int .u8 (r 7)) := by rw [cell_of_row v _ 7 _ _ _ hr2]; rfl
  have m8 : v.cell? ⟨w.heap.size + 1, 8, none⟩ = some (.int .u16 B2) := by rw [cell_of_row v _ 8 _ _ _ hr2]; rfl
  have m9 : v.cell? ⟨w.heap.size + 1, 9, none⟩ = some (.int .u64 H2) := by rw [cell_of_row v _ 9 _ _ _ hr2]; rfl
  have m10 : v.cell? ⟨w.heap.size + 1, 10, none⟩ = some (.int .u64 L2) := by rw [cell_of_row v _ 10 _ _ _ hr2]; rfl
  have m11 : v.cell? ⟨w.heap.size + 1, 11, none⟩ = some (.slice a2 n2 c2) := by rw [cell_of_row v _ 11 _ _ _ hr2]; rfl
  rw [← HV.out] at r0 r1 r2 r3 r4 r5 r6 r7 r8 r9 r10 r11 m0 m1 m2 m3 m4 m5 m6 m7 m8 m9 m10 m11
  clear hwv hr1 hr2 hv hb hb2
  go_enter Try.func19, Try.ntmps19
  cases e8
  · go_wp2_with fail
    exact bodyPost_ret (v := .bool false) (by simp [results, Try.results19, go_sem]) rfl ⟨by first | rfl | simp [*], by rw [HV.out]; exact HWV.out⟩
  cases e1 : (BB == B2)
  · go_wp2_with fail
    exact bodyPost_ret (v := .bool false) (by simp [results, Try.results19, go_sem]) rfl ⟨by first | rfl | simp [*], by rw [HV.out]; exact HWV.out⟩
  cases e2 : (H == H2)
  · go_wp2_with fail
    exact bodyPost_ret (v := .bool false) (by simp [results, Try.results19, go_sem]) rfl ⟨by first | rfl | simp [*], by rw [HV.out]; exact HWV.out⟩
  cases e3 : (L == L2)
  · go_wp2_with fail
    exact bodyPost_ret (v := .bool false) (by simp [results, Try.results19, go_sem]) rfl ⟨by first | rfl | simp [*], by rw [HV.out]; exact HWV.out⟩
  go_wp2_with fail
  rw [HV.out]
  refine (HSA.out _ (Below.refl _ _)).mono ?_
  rintro e w5 ⟨rfl, k5, hk5⟩
  go_wp2_with fail
  exact bodyPost_ret (v := .bool (decide (l = l2))) (by simp [results, Try.results19, go_sem]) rfl ⟨by first | rfl | simp [*], bcomp' HWV.out (below_drewN _ _ _)⟩
end Go.Proofs.Ytedhmoihlfjbdaa
namespace Go.Proofs.Ytedhmoihlfjbdaa
open Go.RowKit Go.Shelf
set_option linter.unusedVariables false
theorem holds_list (v0 v1 v2 v3 v4 v5 v6 v7 : Int) (h0 : 0 ≤ v0 ∧ v0 < 256) (h1 : 0 ≤ v1 ∧ v1 < 256) (h2 : 0 ≤ v2 ∧ v2 < 256) (h3 : 0 ≤ v3 ∧ v3 < 256) (h4 : 0 ≤ v4 ∧ v4 < 256) (h5 : 0 ≤ v5 ∧ v5 < 256) (h6 : 0 ≤ v6 ∧ v6 < 256) (h7 : 0 ≤ v7 ∧ v7 < 256) (BB : Int) (X : Nat) (ab : Option Addr) (nb cb : Nat) (l : List Int) (a : Option Addr) (len c : Nat) (ls : List (List Int)) (w : World) (h : PksAt w a len ls) (hlen : len ≤ 1000000000) (hb : BAt w ab nb l) (hn : nb ≤ 1000000) (r : Bool) (hr : Pa.holds (fun j => [v0, v1, v2, v3, v4, v5, v6, v7].getD j 0) BB X l ls = r) :
    Calls Try.prog 26 #[.agg #[.int .u8 v0, .int .u8 v1, .int .u8 v2, .int .u8 v3, .int .u8 v4, .int .u8 v5, .int .u8 v6, .int .u8 v7, .int .u16 BB, .int .u64 (Mk.H X), .int .u64 (Mk.L X), .slice ab nb cb], .slice a len c] w (ValB (.bool r) w) := by
  have hh := holds_any (fun j => [v0, v1, v2, v3, v4, v5, v6, v7].getD j 0) BB X ab nb cb l a len c ls w h hlen (fun j => by
    match j with
    | 0 => exact h0
    | 1 => exact h1
    | 2 => exact h2
    | 3 => exact h3
    | 4 => exact h4
    | 5 => exact h5
    | 6 => exact h6
    | 7 => exact h7
    | j + 8 => simp) hb hn
  rw [hr] at hh
  exact hh
theorem holds_same {ls : List (List Int)} (hc : Pa.code ls = 0) (hb : PkB ls) {q : Nat → Int} (hq : ∀ j, q j = (Pa.head ls).getD j 0) {v0 : Int} (h0 : v0 % 64 = q 0 % 64) {BB : Int} {X : Nat} (hBB : BB = Pa.base ls) (hX : X = Pa.X ls) : Pa.holds (fun j => [v0, q 1, q 2, q 3, q 4, q 5, q 6, q 7].getD j 0) BB X (Pa.body ls) ls = true := by
  have h := Pa.holds_self hc hb
  unfold Pa.holds at h ⊢
  rw [← hBB, ← hX] at h
  simp only [← hq, List.getD_cons_zero, List.getD_cons_succ] at h ⊢
  rw [h0]
  rw [hBB, hX] at h ⊢
  exact h
theorem holds_flip {ls : List (List Int)} {q : Nat → Int} (hq : ∀ j, q j = (Pa.head ls).getD j 0) (v0 v1 v2 v3 v4 v5 v6 v7 : Int) (h : v1 ≠ q 1 ∨ v2 ≠ q 2 ∨ v3 ≠ q 3 ∨ v4 ≠ q 4) (BB : Int) (X : Nat) (l : List Int) : Pa.holds (fun j => [v0, v1, v2, v3, v4, v5, v6, v7].getD j 0) BB X l ls = false := by
  unfold Pa.holds
  simp only [← hq, List.getD_cons_zero, List.getD_cons_succ]
  rw [decide_eq_false (p := [v0 % 64, v1, v2, v3, v4, v5, v6, v7] = [q 0, q 1, q 2, q 3, q 4, q 5, q 6, q 7]) (fun e => by
    injection e with _ e; injection e with e1 e; injection e with e2 e; injection e with e3 e; injection e with e4 e
    rcases h with h | h | h | h <;> exact h (by assumption))]
  simp
theorem xor192 (x : Int) (h : 0 ≤ x ∧ x < 256) : (0 ≤ bits .xor .u8 x 192 ∧ bits .xor .u8 x 192 < 256) ∧ bits .xor .u8 x 192 % 64 = x % 64 := by
  rw [Str.bits_xor h (by decide)]
  refine ⟨Str.bx_byte h (by decide), ?_⟩
  unfold Str.bx
  have e : (x.toNat ^^^ (192 : Int).toNat) % 2 ^ 6 = x.toNat % 2 ^ 6 := by
    rw [Nat.xor_mod_two_pow, show (192 : Int).toNat % 2 ^ 6 = 0 from rfl, Nat.xor_zero]
  omega
theorem xor1 (x : Int) (h : 0 ≤ x ∧ x < 256) : (0 ≤ bits .xor .u8 x 1 ∧ bits .xor .u8 x 1 < 256) ∧ bits .xor .u8 x 1 ≠ x := by
  rw [Str.bits_xor h (by decide)]
  refine ⟨Str.bx_byte h (by decide), fun e => ?_⟩
  have h1 : Str.bx x (Str.bx x 1) = Str.bx x x := by rw [e]
  rw [← Str.bx_assoc, Str.bx_self] at h1
  revert h1; decide
theorem mask3 (n : Int) : bits .and .i64 n 3 = 0 ∨ bits .and .i64 n 3 = 1 ∨ bits .and .i64 n 3 = 2 ∨ bits .and .i64 n 3 = 3 := by
  have e1 : (BitVec.ofInt 64 n &&& BitVec.ofInt 64 3).toNat = (BitVec.ofInt 64 n).toNat % 4 := by
    rw [BitVec.toNat_and]; exact Nat.and_two_pow_sub_one_eq_mod _ 2
  have : bits .and .i64 n 3 = IntKind.i64.wrap ((BitVec.ofInt 64 n &&& BitVec.ofInt 64 3).toNat : Nat) := rfl
  rw [this, e1, IntKind.wrap_i64]; omega
end Go.Proofs.Ytedhmoihlfjbdaa

/-
  mask: Full, Cut, Lay, Part.
-/
import Derived.Test.YtedhmoihlfjbdaaMaskB
import Derived.Deep.RegionHeld3
import Derived.Deep.RegionWith
namespace Go.Proofs.Ytedhmoihlfjbdaa
open Go.RowKit
set_option linter.unusedVariables false
theorem i64w {x : Int} (h : -9223372036854775808 ≤ x) (h' : x ≤ 9223372036854775807) : IntKind.i64.wrap x = x := by
  unfold IntKind.wrap; simp [IntKind.bits, IntKind.signed]; omega
theorem bcellN {W w1 : World} {N : Nat} (hb : Below W.heap.size W w1) (hN : N ≤ W.heap.size) : (∀ b o, b < N → w1.cell? ⟨b, o, none⟩ = W.cell? ⟨b, o, none⟩) ∧ (∀ b o, b < N → w1.frozen? ⟨b, o, none⟩ = W.frozen? ⟨b, o, none⟩) ∧ N ≤ w1.heap.size :=
  ⟨fun b o h => hb.cell (p := ⟨b, o, none⟩) (by show b < _; omega), fun b o h => hb.frozen (p := ⟨b, o, none⟩) (by show b < _; omega), by have := hb.size; omega⟩
/-- Hi is the low c bits of the number, laid at the top; then down. -/
def Mk.lay (f n : Int) (x : Nat) : Nat := Mk.move f (Mk.mk (sh (64 - max 0 (min n 64)).toNat x) 0)
def Mk.part (X : Nat) (f n : Int) : Nat := sr (64 - max 0 (min n 64)).toNat (Mk.H (Mk.move (wrap64 (-f)) X))
theorem Mk.lay_ok (f n : Int) (x : Nat) : Mk.Ok (Mk.lay f n x) := Mk.move_ok (Mk.mk_ok (sh_lt _ _) (by decide))
theorem mLay_any (f n : Int) (x : Nat) (hf : -9223372036854775808 ≤ f) (hf' : f ≤ 9223372036854775807) (w : World) : Calls Try.prog 163 #[.int .i64 f, .int .i64 n, .int .u64 x] w (MPost (Mk.lay f n x) w) := by
  have hcl := clamp_any n 64
  unfold Mk.lay
  obtain ⟨k, hk⟩ : ∃ k : Nat, max 0 (min n 64) = (k : Int) := ⟨(max 0 (min n 64)).toNat, by omega⟩
  have b1 : k ≤ 64 := by omega
  rw [hk] at hcl ⊢
  have HCL := Lib.hid hcl; clear hcl
  have hd := fun w => mDown_any (Mk.mk (sh (64 - k) x) 0) f (Mk.mk_ok (sh_lt _ _) (by decide)) hf hf' w
  rw [Mk.H_mk (by decide), Mk.L_mk (by decide)] at hd
  have e1 := w_shl x (64 - k)
  rw [show min (64 - k) 64 = 64 - k by omega] at e1
  rw [show (64 - (k : Int)).toNat = 64 - k by omega]
  generalize Mk.move f (Mk.mk (sh (64 - k) x) 0) = Z at *
  generalize sh (64 - k) x = y at *
  have HD := Lib.hid hd; clear hd
  clear hk
  go_enter Try.func163, Try.ntmps163
  go_wp2_with (first
      | (go_at_call 170; refine (HCL.out _).mono ?_; rintro e w' ⟨rfl, rfl⟩)
      | (go_at_call 171; refine (HD.out _).mono ?_; rintro e w1 ⟨rfl, hB⟩; obtain ⟨hc, hf, hN⟩ := bcellN (N := w.heap.size + 1) hB (by first | assumption | (simp; done) | (simp; omega)); have HB := Lib.hid hB; clear hB))
  refine bodyPost_ret (v := .agg #[.int .u64 (Mk.H Z), .int .u64 (Mk.L Z)]) (by simp [results, Try.results163, go_sem, hc]) rfl ⟨rfl, ?_⟩
  exact (((((Below.refl _ w).alloc (Nat.le_refl _) _).trans (HB.out.mono (by simp))).setCell (by simp) _).setCell (by simp) _)
end Go.Proofs.Ytedhmoihlfjbdaa
namespace Go.Proofs.Ytedhmoihlfjbdaa
open Go.RowKit
set_option linter.unusedVariables false
/-- The mask of the first k of a list. -/
def Mk.ofN (zs : List Int) : Nat → Nat | 0 => 0 | k + 1 => Mk.ofN zs k ||| Mk.lay (zs.getD k 0) 1 1
theorem Mk.ofN_ok (zs : List Int) (k : Nat) : Mk.Ok (Mk.ofN zs k) := by
  induction k with
  | zero => exact (by decide : 0 < 2 ^ 128)
  | succ k ih => exact Mk.or_ok ih (Mk.lay_ok _ _ _)
/-- A mask lies in a block of its own. -/
structure MAt (b X : Nat) (w : World) : Prop where
  c0 : w.cell? ⟨b, 0, none⟩ = some (.int .u64 (Mk.H X))
  c1 : w.cell? ⟨b, 1, none⟩ = some (.int .u64 (Mk.L X))
  f0 : w.frozen? ⟨b, 0, none⟩ = false
  f1 : w.frozen? ⟨b, 1, none⟩ = false
theorem MAt.below {b X N : Nat} {w w' : World} (h : MAt b X w) (hb : Below N w w') (hN : b < N) : MAt b X w' :=
  ⟨(hb.cell (p := ⟨b, 0, none⟩) hN).trans h.c0, (hb.cell (p := ⟨b, 1, none⟩) hN).trans h.c1, (hb.frozen (p := ⟨b, 0, none⟩) hN).trans h.f0, (hb.frozen (p := ⟨b, 1, none⟩) hN).trans h.f1⟩
theorem MAt.zero (w : World) (t : Nat) : MAt w.heap.size 0 (w.alloc (.cells #[.int .u64 0, .int .u64 0] t)) := by
  constructor <;> simp [go_sem] <;> decide
theorem MAt.alloc {b X : Nat} {w : World} (h : MAt b X w) (hb : b < w.heap.size) (o : Obj) : MAt b X (w.alloc o) := h.below ((Below.refl _ w).alloc (Nat.le_refl _) o) hb
theorem MAt.set {b X : Nat} {w : World} (h : MAt b X w) (Y : Nat) : MAt b Y ((w.setCell ⟨b, 0, none⟩ (.int .u64 (Mk.H Y))).setCell ⟨b, 1, none⟩ (.int .u64 (Mk.L Y))) := by
  have c0 := h.c0; have c1 := h.c1; have f0 := h.f0; have f1 := h.f1
  constructor <;> simp [go_sem, c0, c1, f0, f1]
theorem MAt.other {b X c : Nat} {w : World} (h : MAt b X w) (hc : b ≠ c) (o : Nat) (v : Value) : MAt b X (w.setCell ⟨c, o, none⟩ v) := by
  have e := Below.heap_setCell w ⟨c, o, none⟩ v b hc
  exact ⟨(World.cell?_of_block (w := w) (a := ⟨b, 0, none⟩) e).trans h.c0, (World.cell?_of_block (w := w) (a := ⟨b, 1, none⟩) e).trans h.c1, (World.frozen?_of_block (w := w) (a := ⟨b, 0, none⟩) e).trans h.f0, (World.frozen?_of_block (w := w) (a := ⟨b, 1, none⟩) e).trans h.f1⟩
theorem MAt.drew {b X : Nat} {w : World} (h : MAt b X w) : MAt b X w.drew := ⟨h.c0, h.c1, h.f0, h.f1⟩
/-- What a list of ints looks like in memory, seen from a world that it lies in. -/
def Ints (a : Option Addr) (len : Nat) (zs : List Int) (w : World) : Prop :=
  ∀ j, j < len → ∃ b off, a = some ⟨b, off, none⟩ ∧ b < w.heap.size ∧ w.cell? ⟨b, off + j, none⟩ = some (.int .i64 (zs.getD j 0)) ∧ -9223372036854775808 ≤ zs.getD j 0 ∧ zs.getD j 0 ≤ 9223372036854775807
theorem Ints.below {a : Option Addr} {len : Nat} {zs : List Int} {w w' : World} (h : Ints a len zs w) (hb : Below w.heap.size w w') : Ints a len zs w' := fun j hj => by
  obtain ⟨b, off, rfl, hbl, hc, h1, h2⟩ := h j hj
  exact ⟨b, off, rfl, Nat.lt_of_lt_of_le hbl hb.size, (hb.cell (p := ⟨b, off + j, none⟩) hbl).trans hc, h1, h2⟩
set_option maxHeartbeats 400000 in
theorem mOf_any (a : Option Addr) (len cap : Nat) (zs : List Int) (w : World) (hz : Ints a len zs w) (hlen : len < 4611686018427387904) :
    Calls Try.prog 152 #[.slice a len cap] w (MPost (Mk.ofN zs len) w) := by
  have HZ := Lib.hid hz; clear hz
  go_enter Try.func152, Try.ntmps152
  go_wp2
  have hA : MAt w.heap.size 0 ((w.alloc (Obj.cells #[Value.int IntKind.u64 0, Value.int IntKind.u64 0] 107)).alloc (Obj.cells #[Value.int IntKind.u64 0, Value.int IntKind.u64 0] 107)) := (MAt.zero w _).alloc (by simp) _
  have hB : MAt (w.heap.size + 1) 0 ((w.alloc (Obj.cells #[Value.int IntKind.u64 0, Value.int IntKind.u64 0] 107)).alloc (Obj.cells #[Value.int IntKind.u64 0, Value.int IntKind.u64 0] 107)) := by
    have := MAt.zero (w.alloc (Obj.cells #[Value.int IntKind.u64 0, Value.int IntKind.u64 0] 107)) 107
    simpa using this
  have hW : Below w.heap.size w ((w.alloc (Obj.cells #[Value.int IntKind.u64 0, Value.int IntKind.u64 0] 107)).alloc (Obj.cells #[Value.int IntKind.u64 0, Value.int IntKind.u64 0] 107)) := ((Below.refl _ _).alloc (Nat.le_refl _) _).alloc (by simp) _
  have hS : w.heap.size + 2 ≤ ((w.alloc (Obj.cells #[Value.int IntKind.u64 0, Value.int IntKind.u64 0] 107)).alloc (Obj.cells #[Value.int IntKind.u64 0, Value.int IntKind.u64 0] 107)).heap.size := by simp
  generalize ((w.alloc (Obj.cells #[Value.int IntKind.u64 0, Value.int IntKind.u64 0] 107)).alloc (Obj.cells #[Value.int IntKind.u64 0, Value.int IntKind.u64 0] 107)) = w0 at hA hB hW hS ⊢
  have HA := Lib.hid hA; have HB := Lib.hid hB; have HW := Lib.hid hW; clear hA hB hW
  go_loopw [8] (fun i wr => ∃ k : Nat, k ≤ len ∧ i = .int .i64 k ∧ Hid (MAt w.heap.size 0 wr) ∧ Hid (MAt (w.heap.size + 1) (Mk.ofN zs k) wr) ∧ Hid (Below w.heap.size w wr) ∧ w.heap.size + 2 ≤ wr.heap.size) (fun i _ => len - (intOf i).toNat)
  case atStart => exact ⟨0, Nat.zero_le _, rfl, HA, HB, HW, hS⟩
  case round =>
    clear HA HB HW hS
    obtain ⟨k, hk, rfl, HA, HB, HW, hS⟩ := hrel
    by_cases hlt : k < len
    · obtain ⟨b, off, rfl, hbl, hck, hr1, hr2⟩ := HZ.out k hlt
      have ck : wr.cell? ⟨b, off + k, none⟩ = some (.int .i64 (zs.getD k 0)) := (HW.out.cell (p := ⟨b, off + k, none⟩) hbl).trans hck
      clear hck
      have hlay := fun w => mLay_any (zs.getD k 0) 1 1 hr1 hr2 w
      have hor := fun w => mOr_any (Mk.ofN zs k) (Mk.lay (zs.getD k 0) 1 1) (Mk.ofN_ok _ _) (Mk.lay_ok _ _ _) w
      rw [show Mk.ofN zs k ||| Mk.lay (zs.getD k 0) 1 1 = Mk.ofN zs (k + 1) from rfl] at hor
      generalize hZ : Mk.ofN zs (k + 1) = Z at *
      have HZZ := Lib.hid hZ; clear hZ
      generalize Mk.lay (zs.getD k 0) 1 1 = Y at *
      generalize zs.getD k 0 = z at *
      generalize Mk.ofN zs k = X at *
      have HL := Lib.hid hlay; have HO := Lib.hid hor; clear hlay hor
      have c0 := HB.out.c0; have c1 := HB.out.c1; have f0 := HB.out.f0; have f1 := HB.out.f1
      go_wp2
      go_region_with (first
        | (go_at_call 163; refine (HL.out _).mono ?_; rintro e w1 ⟨rfl, hB⟩; obtain ⟨hc1, hf1, hN1⟩ := bcellN (N := w.heap.size + 2) hB (by first | assumption | (simp; done) | (simp; omega)); have HB1 := Lib.hid hB; clear hB)
        | (go_at_call 151; refine (HO.out _).mono ?_; rintro e w2 ⟨rfl, hB⟩; obtain ⟨hc2, hf2, hN2⟩ := bcellN (N := w.heap.size + 2) hB (by first | assumption | (simp; done) | (simp; omega)); have HB2 := Lib.hid hB; clear hB))
      all_goals go_wp2
      all_goals go_roundw
      all_goals have HM2 : MAt (w.heap.size + 1) X w2 := (HB.out.drew.below HB1.out (by simp; omega)).below HB2.out (by omega)
      all_goals have HA2 : MAt w.heap.size 0 w2 := (HA.out.drew.below HB1.out (by simp; omega)).below HB2.out (by omega)
      case rel | rel => exact ⟨k + 1, by omega, by go_num, Lib.hid ((HA2.other (by omega) _ _).other (by omega) _ _), Lib.hid (by rw [HZZ.out]; exact HM2.set Z), Lib.hid ((((HW.out.drew.trans (HB1.out.mono (by simp; omega))).trans (HB2.out.mono (by omega))).setCell (by simp) _).setCell (by simp) _), by simp; omega⟩
      case measure | measure => simp [intOf]; omega
    · obtain rfl : k = len := by omega
      have c0 := HB.out.c0; have c1 := HB.out.c1; have f0 := HA.out.f0; have f1 := HA.out.f1; have d0 := HA.out.c0; have d1 := HA.out.c1
      generalize Mk.ofN zs k = X at *
      go_wp2
      refine bodyPost_ret (v := .agg #[.int .u64 (Mk.H X), .int .u64 (Mk.L X)]) (by simp [results, Try.results152, go_sem, d0, d1]) rfl ⟨rfl, ?_⟩
      exact (HW.out.setCell (by simp) _).setCell (by simp) _
end Go.Proofs.Ytedhmoihlfjbdaa

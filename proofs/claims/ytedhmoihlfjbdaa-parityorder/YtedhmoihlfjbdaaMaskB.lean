/-
  mask: the functions of words.
-/
import Derived.Test.YtedhmoihlfjbdaaRows
import Derived.Test.YtedhmoihlfjbdaaMaskPlain
import Derived.WalkKit
import Derived.ProofKit
import Derived.OpenShut
import Derived.Lib.Hide
import Derived.WalkLawsBesides
import Derived.Deep.RegionHeld3
import Derived.Deep.RegionWith
namespace Go.Proofs.Ytedhmoihlfjbdaa
open Go.RowKit
set_option linter.unusedVariables false
def MPost (X : Nat) (w : World) (e : Ending) (w' : World) : Prop := e = .returned (.agg #[.int .u64 (Mk.H X), .int .u64 (Mk.L X)]) ∧ Below w.heap.size w w'
theorem mAnd_any (X Y : Nat) (hX : Mk.Ok X) (hY : Mk.Ok Y) (w : World) :
    Calls Try.prog 174 #[.agg #[.int .u64 (Mk.H X), .int .u64 (Mk.L X)], .agg #[.int .u64 (Mk.H Y), .int .u64 (Mk.L Y)]] w (MPost (X &&& Y) w) := by
  have h1 := Mk.H_lt hX; have h2 := Mk.L_lt X; have h3 := Mk.H_lt hY; have h4 := Mk.L_lt Y
  have e1 : bits .and .u64 (Mk.H X : Int) (Mk.H Y : Int) = (Mk.H (X &&& Y) : Int) := by rw [w_and h1 h3, and_H]
  have e2 : bits .and .u64 (Mk.L X : Int) (Mk.L Y : Int) = (Mk.L (X &&& Y) : Int) := by rw [w_and h2 h4, and_L]
  go_enter Try.func174, Try.ntmps174
  go_wp2
  refine bodyPost_ret (v := .agg #[.int .u64 (Mk.H (X &&& Y)), .int .u64 (Mk.L (X &&& Y))]) (by simp [results, Try.results174, go_sem]) rfl ⟨rfl, ?_⟩
  exact (((Below.refl _ _).alloc (Nat.le_refl _) _).alloc (by simp) _).alloc (by simp; omega) _
theorem mOr_any (X Y : Nat) (hX : Mk.Ok X) (hY : Mk.Ok Y) (w : World) :
    Calls Try.prog 151 #[.agg #[.int .u64 (Mk.H X), .int .u64 (Mk.L X)], .agg #[.int .u64 (Mk.H Y), .int .u64 (Mk.L Y)]] w (MPost (X ||| Y) w) := by
  have h1 := Mk.H_lt hX; have h2 := Mk.L_lt X; have h3 := Mk.H_lt hY; have h4 := Mk.L_lt Y
  have e1 : bits .or .u64 (Mk.H X : Int) (Mk.H Y : Int) = (Mk.H (X ||| Y) : Int) := by rw [w_or h1 h3, or_H]
  have e2 : bits .or .u64 (Mk.L X : Int) (Mk.L Y : Int) = (Mk.L (X ||| Y) : Int) := by rw [w_or h2 h4, or_L]
  go_enter Try.func151, Try.ntmps151
  go_wp2
  refine bodyPost_ret (v := .agg #[.int .u64 (Mk.H (X ||| Y)), .int .u64 (Mk.L (X ||| Y))]) (by simp [results, Try.results151, go_sem]) rfl ⟨rfl, ?_⟩
  exact (((Below.refl _ _).alloc (Nat.le_refl _) _).alloc (by simp) _).alloc (by simp; omega) _
theorem mXor_any (X Y : Nat) (hX : Mk.Ok X) (hY : Mk.Ok Y) (w : World) :
    Calls Try.prog 173 #[.agg #[.int .u64 (Mk.H X), .int .u64 (Mk.L X)], .agg #[.int .u64 (Mk.H Y), .int .u64 (Mk.L Y)]] w (MPost (X ^^^ Y) w) := by
  have h1 := Mk.H_lt hX; have h2 := Mk.L_lt X; have h3 := Mk.H_lt hY; have h4 := Mk.L_lt Y
  have e1 : bits .xor .u64 (Mk.H X : Int) (Mk.H Y : Int) = (Mk.H (X ^^^ Y) : Int) := by rw [w_xor h1 h3, xor_H]
  have e2 : bits .xor .u64 (Mk.L X : Int) (Mk.L Y : Int) = (Mk.L (X ^^^ Y) : Int) := by rw [w_xor h2 h4, xor_L]
  go_enter Try.func173, Try.ntmps173
  go_wp2
  refine bodyPost_ret (v := .agg #[.int .u64 (Mk.H (X ^^^ Y)), .int .u64 (Mk.L (X ^^^ Y))]) (by simp [results, Try.results173, go_sem]) rfl ⟨rfl, ?_⟩
  exact (((Below.refl _ _).alloc (Nat.le_refl _) _).alloc (by simp) _).alloc (by simp; omega) _
theorem mup_any (X n : Nat) (hX : Mk.Ok X) (hn : n < 18446744073709551616) (w : World) :
    Calls Try.prog 176 #[.agg #[.int .u64 (Mk.H X), .int .u64 (Mk.L X)], .int .u64 n] w (MPost (Mk.up n X) w) := by
  have h1 := Mk.H_lt hX; have h2 := Mk.L_lt X
  have e1 := w_shl (Mk.H X) n
  have e2 := w_shl (Mk.L X) n
  have e3 := w_back n hn
  have e4 := w_fore n hn
  have e5 := w_shr (Mk.L X) (back n)
  have e6 := w_shl (Mk.L X) (fore n)
  have e7 := w_or (sh_lt n (Mk.H X)) (sr_lt (n := back n) h2)
  have e8 : bits .or .u64 ((sh n (Mk.H X) ||| sr (back n) (Mk.L X) : Nat) : Int) (sh (fore n) (Mk.L X) : Int) = (Mk.H (Mk.up n X) : Int) := by rw [w_or (or_lt (sh_lt _ _) (sr_lt h2)) (sh_lt _ _), up_H hX hn]
  have e9 : sh n (Mk.L X) = Mk.L (Mk.up n X) := up_L
  go_enter Try.func176, Try.ntmps176
  go_wp2
  refine bodyPost_ret (v := .agg #[.int .u64 (Mk.H (Mk.up n X)), .int .u64 (Mk.L (Mk.up n X))]) (by simp [results, Try.results176, go_sem]) rfl ⟨rfl, ?_⟩
  exact (((Below.refl _ _).alloc (Nat.le_refl _) _).alloc (by simp) _)
theorem mdown_any (X n : Nat) (hX : Mk.Ok X) (hn : n < 18446744073709551616) (w : World) :
    Calls Try.prog 177 #[.agg #[.int .u64 (Mk.H X), .int .u64 (Mk.L X)], .int .u64 n] w (MPost (Mk.down n X) w) := by
  have h1 := Mk.H_lt hX; have h2 := Mk.L_lt X
  have e1 := w_shr (Mk.H X) n
  have e2 := w_shr (Mk.L X) n
  have e3 := w_back n hn
  have e4 := w_fore n hn
  have e5 := w_shl (Mk.H X) (back n)
  have e6 := w_shr (Mk.H X) (fore n)
  have e7 := w_or (sr_lt (n := n) h2) (sh_lt (back n) (Mk.H X))
  have e8 : bits .or .u64 ((sr n (Mk.L X) ||| sh (back n) (Mk.H X) : Nat) : Int) (sr (fore n) (Mk.H X) : Int) = (Mk.L (Mk.down n X) : Int) := by rw [w_or (or_lt (sr_lt h2) (sh_lt _ _)) (sr_lt h1), down_L hX hn]
  have e9 : sr n (Mk.H X) = Mk.H (Mk.down n X) := down_H hX
  go_enter Try.func177, Try.ntmps177
  go_wp2
  refine bodyPost_ret (v := .agg #[.int .u64 (Mk.H (Mk.down n X)), .int .u64 (Mk.L (Mk.down n X))]) (by simp [results, Try.results177, go_sem]) rfl ⟨rfl, ?_⟩
  exact (((Below.refl _ _).alloc (Nat.le_refl _) _).alloc (by simp) _)
end Go.Proofs.Ytedhmoihlfjbdaa
namespace Go.Proofs.Ytedhmoihlfjbdaa
open Go.RowKit
set_option linter.unusedVariables false
def Mk.move (n : Int) (X : Nat) : Nat := if n < 0 then Mk.up (-n).toNat X else Mk.down n.toNat X
theorem Mk.move_ok {n : Int} {X : Nat} (h : Mk.Ok X) : Mk.Ok (Mk.move n X) := by
  unfold Mk.move; split
  · exact Mk.up_ok _ _
  · exact Mk.down_ok h
theorem Mk.move_neg (k X : Nat) (hk : 0 < k) : Mk.move (-(k : Int)) X = Mk.up k X := by unfold Mk.move; rw [if_pos (by omega)]; congr 1; omega
theorem Mk.move_pos (k X : Nat) : Mk.move (k : Int) X = Mk.down k X := by unfold Mk.move; rw [if_neg (by omega)]; congr 1
theorem bcell {W w1 : World} (hb : Below W.heap.size W w1) : (∀ b o, b < W.heap.size → w1.cell? ⟨b, o, none⟩ = W.cell? ⟨b, o, none⟩) ∧ (∀ b o, b < W.heap.size → w1.frozen? ⟨b, o, none⟩ = W.frozen? ⟨b, o, none⟩) :=
  ⟨fun b o h => hb.cell (p := ⟨b, o, none⟩) h, fun b o h => hb.frozen (p := ⟨b, o, none⟩) h⟩
theorem mDown_pos (X k : Nat) (hX : Mk.Ok X) (hn : k ≤ 9223372036854775807) (w : World) :
    Calls Try.prog 171 #[.agg #[.int .u64 (Mk.H X), .int .u64 (Mk.L X)], .int .i64 k] w (MPost (Mk.down k X) w) := by
  go_enter Try.func171, Try.ntmps171
  go_wp2_with (go_at_call 177; refine (mdown_any X k hX (by omega) _).mono ?_; rintro e w1 ⟨rfl, hB⟩; obtain ⟨hc, hf⟩ := bcell hB; have HB := Lib.hid hB; clear hB)
  refine bodyPost_ret (v := .agg #[.int .u64 (Mk.H (Mk.down k X)), .int .u64 (Mk.L (Mk.down k X))]) (by simp [results, Try.results171, go_sem, hc]) rfl ⟨rfl, ?_⟩
  exact (((((Below.refl _ w).alloc (Nat.le_refl _) _).alloc (by simp) _).trans (HB.out.mono (by simp; omega))).setCell (by simp) _).setCell (by simp) _
theorem mDown_neg (X k : Nat) (hX : Mk.Ok X) (h0 : 0 < k) (hn : k ≤ 9223372036854775808) (w : World) :
    Calls Try.prog 171 #[.agg #[.int .u64 (Mk.H X), .int .u64 (Mk.L X)], .int .i64 (-(k : Int))] w (MPost (Mk.up k X) w) := by
  have e1 : IntKind.u64.wrap (wrap64 (k : Int)) = (k : Int) := by rw [u64w]; unfold wrap64; omega
  go_enter Try.func171, Try.ntmps171
  go_wp2_with (go_at_call 176; refine (mup_any X k hX (by omega) _).mono ?_; rintro e w1 ⟨rfl, hB⟩; obtain ⟨hc, hf⟩ := bcell hB; have HB := Lib.hid hB; clear hB)
  refine bodyPost_ret (v := .agg #[.int .u64 (Mk.H (Mk.up k X)), .int .u64 (Mk.L (Mk.up k X))]) (by simp [results, Try.results171, go_sem, hc]) rfl ⟨rfl, ?_⟩
  exact (((((Below.refl _ w).alloc (Nat.le_refl _) _).alloc (by simp) _).trans (HB.out.mono (by simp; omega))).setCell (by simp) _).setCell (by simp) _
theorem mDown_any (X : Nat) (n : Int) (hX : Mk.Ok X) (hn : -9223372036854775808 ≤ n) (hn' : n ≤ 9223372036854775807) (w : World) :
    Calls Try.prog 171 #[.agg #[.int .u64 (Mk.H X), .int .u64 (Mk.L X)], .int .i64 n] w (MPost (Mk.move n X) w) := by
  by_cases h : n < 0
  · obtain ⟨k, rfl⟩ : ∃ k : Nat, n = -(k : Int) := ⟨(-n).toNat, by omega⟩
    rw [Mk.move_neg k X (by omega)]; exact mDown_neg X k hX (by omega) (by omega) w
  · obtain ⟨k, rfl⟩ : ∃ k : Nat, n = (k : Int) := ⟨n.toNat, by omega⟩
    rw [Mk.move_pos]; exact mDown_pos X k hX (by omega) w
theorem mret_int {k : IntKind} {a b : Int} (h : a = b) : Ending.returned (.int k a) = .returned (.int k b) := by rw [h]
theorem mret_bool {a b : Bool} (h : a = b) : Ending.returned (.bool a) = .returned (.bool b) := by rw [h]
theorem clamp_any (n m : Int) (w : World) :
    Calls Try.prog 170 #[.int .i64 n, .int .i64 m] w fun e w' => e = .returned (.int .i64 (max 0 (min n m))) ∧ w = w' := by
  go_enter Try.func170, Try.ntmps170
  go_wp2
  all_goals go_ret
  all_goals exact ⟨mret_int (by split at * <;> omega), rfl⟩
def Mk.ones : Nat := 2 ^ 128 - 1
/-- The first n bits. -/
def Mk.full (n : Int) : Nat := Mk.move (max 0 (min n 128) - 128) Mk.ones
theorem Mk.ones_ok : Mk.Ok Mk.ones := by unfold Mk.Ok Mk.ones; decide
theorem Mk.ones_H : Mk.H Mk.ones = 18446744073709551615 := by decide
theorem Mk.ones_L : Mk.L Mk.ones = 18446744073709551615 := by decide
theorem Mk.full_ok (n : Int) : Mk.Ok (Mk.full n) := Mk.move_ok Mk.ones_ok
theorem mDown_ones (n : Int) (hn : -9223372036854775808 ≤ n) (hn' : n ≤ 9223372036854775807) (w : World) :
    Calls Try.prog 171 #[.agg #[.int .u64 18446744073709551615, .int .u64 18446744073709551615], .int .i64 n] w (MPost (Mk.move n Mk.ones) w) := by
  have h := mDown_any Mk.ones n Mk.ones_ok hn hn' w
  have e1 : (Mk.H Mk.ones : Int) = 18446744073709551615 := by rw [Mk.ones_H]; rfl
  have e2 : (Mk.L Mk.ones : Int) = 18446744073709551615 := by rw [Mk.ones_L]; rfl
  rw [e1, e2] at h; exact h
end Go.Proofs.Ytedhmoihlfjbdaa

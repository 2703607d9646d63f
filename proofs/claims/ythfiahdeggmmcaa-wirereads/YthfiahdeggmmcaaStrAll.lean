/-
  slices.Values over byte strings; stripe.Fold.
-/
import Derived.Test.YthfiahdeggmmcaaStrSum
import Derived.Test.YthfiahdeggmmcaaRelRange
import Derived.Shelf.Abstract
import Derived.Shelf.RegionOpen
import Derived.OwnWalkIn
import Derived.TacticsInMore
import Derived.LoopNIn
import Derived.LoopIn
namespace Go.Proofs.Ythfiahdeggmmcaa
open Go.RowKit Go.Shelf
set_option linter.unusedVariables false
attribute [local go_sem] Oper.semAt_some
theorem grown_refl (w : World) (r : Option Nat) : w.grownBy w r := ⟨rfl, rfl, rfl, Nat.le_refl _, fun _ _ _ => rfl⟩
def valsPre (B : Nat) (a : Option Addr) (len c b o : Nat) (vals : Nat → Value) (W : World) : Prop :=
  W.cell? ⟨B, 0, none⟩ = some (.slice a len c) ∧ ∀ k, k < len → W.cell? ⟨b, o + k, none⟩ = some (vals k)
def valsRel (vals : Nat → Value) (k : Nat) (v : Array Value) (_ _ : World) : Prop := v = #[vals k]
set_option maxHeartbeats 1000000 in
set_option maxRecDepth 100000 in
theorem values_rel (n : Nat) (hn : 1 ≤ n) (B : Nat) (a : Option Addr) (len c b o : Nat) (hlen : len ≤ 9223372036854775807) (ha : 0 < len → a = some ⟨b, o, none⟩) (vals : Nat → Value) :
    SeqRel Fence.wide n Try.prog 79 #[.pointer (some ⟨B, 0, none⟩)] (valsRel vals) len 0 (valsPre B a len c b o vals) := by
  rintro l J Jx W hP hJ hJx hY h0
  have c0 := (hP 0 W h0).1
  have HY := Lib.hid hY; clear hY
  have HJ := Lib.hid hJ; have HJx := Lib.hid hJx; have HP := Lib.hid hP; have HA := Lib.hid ha; clear hJ hJx hP ha
  refine callsIn_of_wp Try.func79 rfl trivial ?_ rfl
  simp only [Try.ntmps79, List.size_toArray, List.length_cons, List.length_nil, Nat.reduceAdd, Nat.reduceSub, Array.replicate_succ, Array.replicate_zero, List.push_toArray, List.append_toArray, List.nil_append, List.cons_append]
  gi_wp2
  gi_loopw [7] (fun i wr => ∃ k : Nat, k ≤ len ∧ i = .int .i64 k ∧ Hid (J k wr) ∧ W.heap.size ≤ wr.heap.size) (fun i _ => len - (intOf i).toNat)
  case atStart => exact ⟨0, Nat.zero_le _, rfl, Lib.hid h0, Nat.le_refl _⟩
  case round =>
    clear h0 c0
    obtain ⟨k, hk, rfl, HJk, hsz⟩ := hrel
    by_cases hlt : k < len
    · have hltz : (k : Int) < (len : Int) := by omega
      obtain rfl := HA.out (by omega)
      have c1 := (HP.out k wr HJk.out).2 k hlt
      obtain ⟨fn, tmps, assign, body, hy, hR⟩ := HY.out k #[vals k] wr wr hlt HJk.out (grown_refl wr none) rfl (by omega)
      have HR := Lib.hid hR; clear hR
      gi_wp2
      refine HR.out.mono ?_
      clear hy HR
      rintro e W2 (⟨rfl, hJ2, hs2, hk2⟩ | ⟨rfl, hJx2⟩)
      · have HJ2 := Lib.hid hJ2; clear hJ2 hk2
        gi_wp2
        go_roundw
        case rel => exact ⟨k + 1, by omega, by go_num, HJ2, by omega⟩
        case measure => simp [intOf]; omega
      · gi_wp2
        refine bodyPost_ret (results_none rfl _ _ _) rfl ?_
        exact ⟨⟨_, rfl⟩, .inr ⟨k + 1, by omega, hJx2⟩⟩
    · have hltz : ¬ (k : Int) < (len : Int) := by omega
      obtain rfl : k = len := by omega
      gi_wp2
      go_end0
      exact ⟨⟨_, rfl⟩, .inl HJk.out⟩
theorem values_any (a : Option Addr) (n c : Nat) (w : World) :
    Calls Try.prog 67 #[.slice a n c] w fun e w' => e = .returned (.func (.func 79) #[] #[.pointer (some ⟨w.heap.size, 0, none⟩)]) ∧ w' = w.alloc (.cells #[.slice a n c] 61) := by
  go_enter Try.func67, Try.ntmps67
  go_wp2
  go_ret
  exact ⟨rfl, rfl⟩
/-- What Fold is told of an iterator: the k-th value is a slice whose bytes are the k-th of ls; they lie in old memory, or were just made. -/
def FoldsTo (w0 : World) (R : Nat → Array Value → World → World → Prop) (ls : List (List Int)) : Prop :=
  ∀ k v Wp W, k < ls.length → Below w0.heap.size w0 Wp → Below w0.heap.size w0 W → w0.heap.size < Wp.heap.size → R k v Wp W → ∃ a n c, v = #[.slice a n c] ∧ n ≤ 140737488355328 ∧ BAt W a n (ls.getD k []) ∧ ∀ x, 0 < n → a = some x → x.block < w0.heap.size ∨ Wp.heap.size ≤ x.block
def Str.longest (ls : List (List Int)) : Nat := (Str.all [] ls).length
end Go.Proofs.Ythfiahdeggmmcaa

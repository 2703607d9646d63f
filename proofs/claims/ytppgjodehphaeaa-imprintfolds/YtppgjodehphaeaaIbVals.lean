
/-
  slices.Values over imprints.
-/
import Derived.Test.YtppgjodehphaeaaIbPkt
import Derived.Test.YtppgjodehphaeaaStrAlive2
namespace Go.Proofs.Ytppgjodehphaeaa
open Go.RowKit Go.Shelf
set_option linter.unusedVariables false
attribute [local go_sem] Oper.semAt_some
/-- The cells of imprint k of a row at b, from o on. -/
def IvAt (W : World) (b o k : Nat) (h : Nat → Nat → Int) (ad : Nat → Option Addr) (nd cd : Nat → Nat) : Prop :=
  W.cell? ⟨b, o + k * 9, none⟩ = some (.int .u8 (h k 0)) ∧ W.cell? ⟨b, o + k * 9 + 1, none⟩ = some (.int .u8 (h k 1)) ∧ W.cell? ⟨b, o + k * 9 + 2, none⟩ = some (.int .u8 (h k 2)) ∧ W.cell? ⟨b, o + k * 9 + 3, none⟩ = some (.int .u8 (h k 3)) ∧ W.cell? ⟨b, o + k * 9 + 4, none⟩ = some (.int .u8 (h k 4)) ∧ W.cell? ⟨b, o + k * 9 + 5, none⟩ = some (.int .u8 (h k 5)) ∧ W.cell? ⟨b, o + k * 9 + 6, none⟩ = some (.int .u8 (h k 6)) ∧ W.cell? ⟨b, o + k * 9 + 7, none⟩ = some (.int .u8 (h k 7)) ∧ W.cell? ⟨b, o + k * 9 + 8, none⟩ = some (.slice (ad k) (nd k) (cd k))
def ivalsPre (B : Nat) (a : Option Addr) (len c b o : Nat) (h : Nat → Nat → Int) (ad : Nat → Option Addr) (nd cd : Nat → Nat) (W : World) : Prop :=
  W.cell? ⟨B, 0, none⟩ = some (.slice a len c) ∧ ∀ k, k < len → IvAt W b o k h ad nd cd
def ivalsRel (h : Nat → Nat → Int) (ad : Nat → Option Addr) (nd cd : Nat → Nat) (k : Nat) (v : Array Value) (_ _ : World) : Prop := v = #[.agg #[.int .u8 (h k 0), .int .u8 (h k 1), .int .u8 (h k 2), .int .u8 (h k 3), .int .u8 (h k 4), .int .u8 (h k 5), .int .u8 (h k 6), .int .u8 (h k 7), .slice (ad k) (nd k) (cd k)]]
set_option maxHeartbeats 1000000 in
set_option maxRecDepth 100000 in
theorem ivalues_rel (n : Nat) (hn : 1 ≤ n) (B : Nat) (a : Option Addr) (len c b o : Nat) (hlen : len ≤ 9223372036854775807) (ha : 0 < len → a = some ⟨b, o, none⟩) (h : Nat → Nat → Int) (ad : Nat → Option Addr) (nd cd : Nat → Nat) :
    SeqRel Fence.wide n Try.prog 62 #[.pointer (some ⟨B, 0, none⟩)] (ivalsRel h ad nd cd) len 0 (ivalsPre B a len c b o h ad nd cd) := by
  rintro l J Jx W hP hJ hJx hY h0
  have c0 := (hP 0 W h0).1
  have HY := Lib.hid hY; clear hY
  have HJ := Lib.hid hJ; have HJx := Lib.hid hJx; have HP := Lib.hid hP; have HA := Lib.hid ha; clear hJ hJx hP ha
  refine callsIn_of_wp Try.func62 rfl trivial ?_ rfl
  simp only [Try.ntmps62, List.size_toArray, List.length_cons, List.length_nil, Nat.reduceAdd, Nat.reduceSub, Array.replicate_succ, Array.replicate_zero, List.push_toArray, List.append_toArray, List.nil_append, List.cons_append]
  gi_wp2
  gi_loopw [7] (fun i wr => ∃ k : Nat, k ≤ len ∧ i = .int .i64 k ∧ Hid (J k wr) ∧ W.heap.size ≤ wr.heap.size) (fun i _ => len - (intOf i).toNat)
  case atStart => exact ⟨0, Nat.zero_le _, rfl, Lib.hid h0, Nat.le_refl _⟩
  case round =>
    clear h0 c0
    obtain ⟨k, hk, rfl, HJk, hsz⟩ := hrel
    by_cases hlt : k < len
    · have hltz : (k : Int) < (len : Int) := by omega
      obtain rfl := HA.out (by omega)
      obtain ⟨c1, c2, c3, c4, c5, c6, c7, c8, c9⟩ := (HP.out k wr HJk.out).2 k hlt
      obtain ⟨fn, tmps, assign, body, hy, hR⟩ := HY.out k #[.agg #[.int .u8 (h k 0), .int .u8 (h k 1), .int .u8 (h k 2), .int .u8 (h k 3), .int .u8 (h k 4), .int .u8 (h k 5), .int .u8 (h k 6), .int .u8 (h k 7), .slice (ad k) (nd k) (cd k)]] wr (wr.alloc (.cells #[.int .u8 (h k 0), .int .u8 (h k 1), .int .u8 (h k 2), .int .u8 (h k 3), .int .u8 (h k 4), .int .u8 (h k 5), .int .u8 (h k 6), .int .u8 (h k 7), .slice (ad k) (nd k) (cd k)] 27)) hlt HJk.out (grown_alloc wr _) rfl (by omega)
      have HR := Lib.hid hR; clear hR
      gi_wp2
      refine HR.out.mono ?_
      clear hy HR
      rintro e W2 (⟨rfl, hJ2, hs2, hk2⟩ | ⟨rfl, hJx2⟩)
      · have hs2' : wr.heap.size + 1 ≤ W2.heap.size := by simpa using hs2
        have HJ2 := Lib.hid hJ2; clear hJ2 hk2 hs2
        gi_wp2
        go_roundw
        case rel => exact ⟨k + 1, by omega, by go_num, HJ2, by omega⟩
        case measure => simp [intOf]; omega
      · gi_wp2
        refine bodyPost_ret (results_none rfl _ _ _) rfl ?_
        exact ⟨⟨_, rfl⟩, .inr ⟨k + 1, by omega, hJx2⟩⟩
    · have hltz : ¬ (k : Int) < (len : Int) := by omega
      obtain rfl : k = len := by omega
      gi_wp2
      go_end0
      exact ⟨⟨_, rfl⟩, .inl HJk.out⟩
theorem ivalues_any (a : Option Addr) (n c : Nat) (w : World) :
    Calls Try.prog 37 #[.slice a n c] w fun e w' => e = .returned (.func (.func 62) #[] #[.pointer (some ⟨w.heap.size, 0, none⟩)]) ∧ w' = w.alloc (.cells #[.slice a n c] 54) := by
  go_enter Try.func37, Try.ntmps37
  go_wp2
  go_ret
  exact ⟨rfl, rfl⟩
end Go.Proofs.Ytppgjodehphaeaa

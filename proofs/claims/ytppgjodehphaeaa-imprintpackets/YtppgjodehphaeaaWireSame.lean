/-
  What steps read: parse's own function.
-/
import Derived.Test.YtppgjodehphaeaaWireGot
namespace Go.Proofs.Ytppgjodehphaeaa
open Go.RowKit Go.Shelf
set_option linter.unusedVariables false
/-- How many bytes the first i steps read; what step i gives. -/
def pos (ks ns : Nat → Int) (n : Nat) : Nat → Nat
  | 0 => 0
  | i + 1 => pos ks ns n i + stepK (ks i) (ns i) (n - pos ks ns n i)
def gotX (ks ns : Nat → Int) (l : List Int) (i : Nat) : Int := stepX (ks i) (l.drop (pos ks ns l.length i))
def gotB (ks ns : Nat → Int) (l : List Int) (i : Nat) : List Int := stepB (ks i) (ns i) (l.drop (pos ks ns l.length i))
/-- The error of step i (0: none). -/
def noAt (ks ns : Nat → Int) (n i : Nat) : Int := stepNo (ks i) (ns i) (n - pos ks ns n i)
theorem stepK_le {k m : Int} {n : Nat} (h : stepNo k m n = 0) : stepK k m n ≤ n := by
  unfold stepNo at h; unfold stepK
  split
  · rename_i hk; rw [if_pos hk] at h; split at h <;> omega
  · rename_i hk
    rw [if_neg hk] at h
    split
    · rename_i h0; rw [if_pos h0] at h; split at h <;> omega
    · split <;> omega
theorem pos_le (ks ns : Nat → Int) (n : Nat) : ∀ i, (∀ j, j < i → noAt ks ns n j = 0) → pos ks ns n i ≤ n
  | 0, _ => Nat.zero_le _
  | i + 1, h => by
    have h1 := pos_le ks ns n i (fun j hj => h j (by omega))
    have h2 := stepK_le (h i (by omega))
    simp only [pos]; omega
theorem RdAt.low {w W : World} {R U : Nat} {a : Option Addr} {n c : Nat} {l : List Int} (h : RdAt w R U a n c l) (base : Nat) (hR : R < base) (hU : U < base) (hlo : 0 < n → ∀ x, a = some x → x.block < base) (hz : w.heap.size ≤ W.heap.size) (hb : ∀ j, j < base → W.heap[j]? = w.heap[j]?) : RdAt W R U a n c l :=
  ⟨(hb R hR).trans h.rd, (hb U hU).trans h.run, h.ne, h.row.same hz fun x h0 hx _ => hb x.block (hlo h0 x hx), h.cap, h.far⟩
theorem restA_low {a : Option Addr} {n c k base : Nat} (hc : n ≤ c) (hk : k ≤ n) (hf : 0 < n → ∀ x, a = some x → x.block < base) : 0 < n - k → ∀ x, restA a c k = some x → x.block < base := fun h0 x hx => by
  unfold restA at hx
  rw [if_neg (by omega)] at hx
  cases a with
  | none => cases hx
  | some y =>
    simp at hx
    have := hf (by omega) y rfl
    rw [← hx]
    unfold Addr.add
    split <;> simpa using this
end Go.Proofs.Ytppgjodehphaeaa
namespace Go.Proofs.Ytppgjodehphaeaa
open Go.RowKit Go.Shelf
set_option linter.unusedVariables false
set_option maxHeartbeats 1000000 in
set_option maxRecDepth 100000 in
theorem rnum_any (a : Option Addr) (n c : Nat) (l : List Int) (w : World) (h : BAt w a n l) (h8 : n ≤ 8) :
    Calls Try.prog 58 #[.slice a n c] w (SameV (.int .u64 (Num l)) w) := by
  have hl := h.len; have hok := h.ok
  obtain ⟨b, o, hr⟩ := h.row
  have HL := Lib.hid hl; have HR := Lib.hid hr; have HK := Lib.hid hok; clear hl hr hok h
  go_enter Try.func58, Try.ntmps58
  go_wp2
  go_loop [3, 4] (fun ov iv => ∃ i : Nat, i ≤ n ∧ iv = .int .i64 i ∧ ov = .int .u64 (Num (l.take i))) (fun _ iv => n - (intOf iv).toNat)
  case atStart => exact ⟨0, Nat.zero_le _, rfl, rfl⟩
  case round =>
    obtain ⟨i, hi, rfl, rfl⟩ := hrel
    by_cases hlt : i < n
    · have hltz : (i : Int) < (n : Int) := by omega
      obtain ⟨rfl, hbl, d1, d2⟩ := HR.out i hlt
      have hb := Num_bd l HK.out i (by rw [HL.out]; omega)
      have hb2 := Num_bd l HK.out (i + 1) (by rw [HL.out]; omega)
      have hs := Num_take l i (by rw [HL.out]; exact hlt)
      have hby := HK.out i
      have hp : (256 : Int) ^ (i + 1) ≤ 18446744073709551616 := by
        have : i = 0 ∨ i = 1 ∨ i = 2 ∨ i = 3 ∨ i = 4 ∨ i = 5 ∨ i = 6 ∨ i = 7 := by omega
        rcases this with rfl | rfl | rfl | rfl | rfl | rfl | rfl | rfl <;> decide
      have HS := Lib.hid hs
      have hb3 : Num (l.take i) * 256 + l.getD i 0 < 18446744073709551616 := by rw [← hs]; omega
      clear hs hb2 hp
      generalize Num (l.take i) = x at hb HS hb3 ⊢
      generalize l.getD i 0 = y at d1 hby HS hb3
      have hb0 := hb.1
      clear hb d2
      have hu1 : IntKind.u64.wrap y = y := by simp [IntKind.wrap, IntKind.bits, IntKind.signed]; omega
      have hu2 : IntKind.u64.wrap (x * 256) = x * 256 := by simp [IntKind.wrap, IntKind.bits, IntKind.signed]; omega
      have hu3 : IntKind.u64.wrap (x * 256 + y) = x * 256 + y := by simp [IntKind.wrap, IntKind.bits, IntKind.signed]; omega
      go_wp2
      go_round
      case rel => exact ⟨i + 1, by omega, by go_num, by rw [HS.out]⟩
      case measure => simp [intOf]; omega
    · have hltz : ¬ (i : Int) < (n : Int) := by omega
      obtain rfl : i = n := by omega
      have hl := HL.out
      go_wp2
      go_ret
      exact ⟨by rw [List.take_of_length_le (by omega)]; rfl, rfl⟩
end Go.Proofs.Ytppgjodehphaeaa

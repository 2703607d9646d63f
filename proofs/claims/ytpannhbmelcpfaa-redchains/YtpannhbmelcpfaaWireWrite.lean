
/-
  Steps and what was got, in memory; what steps write, by the law's own write and by the reference.
-/
import Derived.Test.YtpannhbmelcpfaaWireRef
namespace Go.Proofs.Ytpannhbmelcpfaa
open Go.RowKit Go.Shelf
set_option linter.unusedVariables false
def StAt (W : World) (a : Option Addr) (n : Nat) (ks ns : Nat → Int) : Prop :=
  ∃ b o, ∀ i, i < n → a = some ⟨b, o, none⟩ ∧ b < W.heap.size ∧ W.cell? ⟨b, o + i * 2, none⟩ = some (.int .i64 (ks i)) ∧ W.cell? ⟨b, o + i * 2 + 1, none⟩ = some (.int .i64 (ns i))
theorem StAt.below {W W' : World} {a : Option Addr} {n : Nat} {ks ns : Nat → Int} (h : StAt W a n ks ns) (hb : Below W.heap.size W W') : StAt W' a n ks ns := by
  obtain ⟨b, o, hr⟩ := h
  refine ⟨b, o, fun i hi => ?_⟩
  obtain ⟨h1, h2, h3, h4⟩ := hr i hi
  exact ⟨h1, by have := hb.size; omega, (hb.cell (p := ⟨b, o + i * 2, none⟩) h2).trans h3, (hb.cell (p := ⟨b, o + i * 2 + 1, none⟩) h2).trans h4⟩
def GtAt (W : World) (a : Option Addr) (n : Nat) (xs : Nat → Int) (A : Nat → Option Addr) (L C : Nat → Nat) (bs : Nat → List Int) : Prop :=
  ∃ b o, ∀ i, i < n → a = some ⟨b, o, none⟩ ∧ b < W.heap.size ∧ W.cell? ⟨b, o + i * 2, none⟩ = some (.int .u64 (xs i)) ∧ W.cell? ⟨b, o + i * 2 + 1, none⟩ = some (.slice (A i) (L i) (C i)) ∧ 0 ≤ xs i ∧ xs i < 18446744073709551616 ∧ BAt W (A i) (L i) (bs i)
theorem GtAt.below {W W' : World} {a : Option Addr} {n : Nat} {xs : Nat → Int} {A : Nat → Option Addr} {L C : Nat → Nat} {bs : Nat → List Int} (h : GtAt W a n xs A L C bs) (hb : Below W.heap.size W W') : GtAt W' a n xs A L C bs := by
  obtain ⟨b, o, hr⟩ := h
  refine ⟨b, o, fun i hi => ?_⟩
  obtain ⟨h1, h2, h3, h4, h5, h6, h7⟩ := hr i hi
  exact ⟨h1, by have := hb.size; omega, (hb.cell (p := ⟨b, o + i * 2, none⟩) h2).trans h3, (hb.cell (p := ⟨b, o + i * 2 + 1, none⟩) h2).trans h4, h5, h6, h7.below hb⟩
/-- What one step writes. -/
def wr1 (k x : Int) (b : List Int) : List Int := if k = 1 then Big 1 x else if k = 2 then Big 2 x else if k = 4 then Big 4 x else if k = 8 then Big 8 x else if k = 0 then b else []
def Wr (ks xs : Nat → Int) (bs : Nat → List Int) : Nat → List Int
  | 0 => []
  | i + 1 => Wr ks xs bs i ++ wr1 (ks i) (xs i) (bs i)
theorem wr1_len (k x : Int) (b : List Int) (h : b.length ≤ 200) : (wr1 k x b).length ≤ 200 := by
  unfold wr1
  split; · rw [Big_len]; omega
  split; · rw [Big_len]; omega
  split; · rw [Big_len]; omega
  split; · rw [Big_len]; omega
  split; · exact h
  simp
theorem Big1 (x : Int) : Big 1 x = [x % 256] := by simp [Big]
theorem Big2 (x : Int) : Big 2 x = [x / 256 % 256, x % 256] := by simp [Big, List.range_succ]
theorem Big4 (x : Int) : Big 4 x = [x / 16777216 % 256, x / 65536 % 256, x / 256 % 256, x % 256] := by simp [Big, List.range_succ]
theorem Big1_mod (x : Int) : Big 1 (x % 65536) = Big 1 x := by rw [Big1, Big1]; congr 1; omega
theorem Big2_mod (x : Int) : Big 2 (x % 65536) = Big 2 x := by
  rw [Big2, Big2]; congr 1
  · omega
  · congr 1; omega
theorem Big4_mod (x : Int) : Big 4 (x % 4294967296) = Big 4 x := by
  rw [Big4, Big4]; congr 1
  · omega
  · congr 1
    · omega
    · congr 1
      · omega
      · congr 1; omega
theorem and65535u (n : Int) (h : 0 ≤ n) (h' : n < 18446744073709551616) : bits .and .u64 n 65535 = n % 65536 := by
  have hmn : (BitVec.ofInt 64 (65535 : Int)).toNat = 2 ^ 16 - 1 := by decide
  have key : (BitVec.ofInt 64 n &&& BitVec.ofInt 64 (65535 : Int)).toNat = (n % ((2 ^ 64 : Nat) : Int)).toNat % 2 ^ 16 := by
    rw [BitVec.toNat_and, BitVec.toNat_ofInt, hmn, Nat.and_two_pow_sub_one_eq_mod]
  show IntKind.u64.wrap ((BitVec.ofInt 64 n &&& BitVec.ofInt 64 (65535 : Int)).toNat : Nat) = _
  rw [key]
  have : ∀ n : Int, IntKind.u64.wrap n = n % 18446744073709551616 := fun n => by simp [IntKind.wrap, IntKind.bits, IntKind.signed]
  rw [this]; omega
def WriteSt (w : World) (s : Nat) (l : List Int) (n : Nat) (W : World) : Prop := ∃ a c, WrAt W s w.heap.size a n c l ∧ Below w.heap.size w W
theorem WriteSt.step {w W w' : World} {s n m : Nat} {l l' : List Int} {a : Option Addr} {c : Nat} (hs : w.heap.size ≤ s) (h : WrAt W s w.heap.size a n c l) (hb : Below w.heap.size w W) {e : Ending} (hp : WrPost s w.heap.size m l' W (a.map (·.block)) e w') : e = .returned (.tuple #[]) ∧ WriteSt w s l' m w' := by
  obtain ⟨he, a', c', h1, h2, h3⟩ := hp
  refine ⟨he, a', c', h1, hb.trans (h2.below hs (fun x e => ?_) hb.size)⟩
  cases a with
  | none => cases e
  | some y => have := (h.own.blk y rfl).1; simp at e; omega
def WritePost (l : List Int) (w : World) (e : Ending) (w' : World) : Prop := ∃ s, e = .returned (.pointer (some ⟨s, 0, none⟩)) ∧ w.heap.size ≤ s ∧ WriteSt w s l l.length w'
end Go.Proofs.Ytpannhbmelcpfaa

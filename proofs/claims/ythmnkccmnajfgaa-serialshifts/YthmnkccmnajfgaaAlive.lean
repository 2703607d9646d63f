/-
  The document's examples of layer 1.
-/
import Derived.Test.YthmnkccmnajfgaaSortSmall
import Derived.Test.YthmnkccmnajfgaaSpan
import Derived.Deep.RegionHeld3
namespace Go.Proofs.Ythmnkccmnajfgaa
open Go.RowKit Go.Sort
set_option linter.unusedVariables false
def TrueBelow (w : World) (e : Ending) (w' : World) : Prop := e = .returned (.bool true) ∧ Below w.heap.size w w'
theorem three_cells (b : Nat) (w : World) (x y z : Int) (h0 : w.cell? ⟨b, 0, none⟩ = some (.int .u16 x)) (h1 : w.cell? ⟨b, 1, none⟩ = some (.int .u16 y)) (h2 : w.cell? ⟨b, 2, none⟩ = some (.int .u16 z)) :
    ∀ j, j < (#[x, y, z] : Array Int).size → w.cell? ⟨b, 0 + j, none⟩ = some (.int .u16 (#[x, y, z] : Array Int)[j]!) := by
  intro j hj
  match j, hj with
  | 0, _ => simpa using h0
  | 1, _ => simpa using h1
  | 2, _ => simpa using h2
theorem span3 (b : Nat) (w : World) (h0 : w.cell? ⟨b, 0, none⟩ = some (.int .u16 65535)) (h1 : w.cell? ⟨b, 1, none⟩ = some (.int .u16 2)) (h2 : w.cell? ⟨b, 2, none⟩ = some (.int .u16 65534)) :
    Calls Try.prog 25 #[.slice (some ⟨b, 0, none⟩) 3 3] w fun e w' => e = .returned (.tuple #[.int .u16 65534, .int .i64 4]) ∧ w = w' :=
  span_any b 0 3 #[65535, 2, 65534] w (Lib.hid (three_cells b w _ _ _ h0 h1 h2)) (by decide) (by decide)
def Sort3Post (b : Nat) (w : World) (e : Ending) (w' : World) : Prop := e = .returned (.tuple #[]) ∧ w'.cell? ⟨b, 0, none⟩ = some (.int .u16 65534) ∧ w'.cell? ⟨b, 2, none⟩ = some (.int .u16 2) ∧ w.grownBy w' (some b)
theorem perm3 {d d' : Array Int} (hs : d.size = 3) (h : PermIn 0 d.size d d') : d'.size = 3 ∧ d'.toList.Perm d.toList := by
  obtain ⟨h1, _, h3⟩ := h
  refine ⟨by omega, ?_⟩
  have e1 : d'.extract 0 d.size = d' := by rw [← h1]; simp
  have e2 : d.extract 0 d.size = d := by simp
  rw [e1, e2] at h3; exact h3
theorem sort3 (b : Nat) (w : World) (h0 : w.cell? ⟨b, 0, none⟩ = some (.int .u16 65535)) (h1 : w.cell? ⟨b, 1, none⟩ = some (.int .u16 2)) (h2 : w.cell? ⟨b, 2, none⟩ = some (.int .u16 65534)) (hf : ∀ j, w.frozen? ⟨b, j, none⟩ = false) (hb : b < w.heap.size) :
    Calls Try.prog 27 #[.slice (some ⟨b, 0, none⟩) 3 3] w (Sort3Post b w) := by
  refine (sort_small b 0 3 #[65535, 2, 65534] w (three_cells b w _ _ _ h0 h1 h2) (fun j _ => hf _) hb (by decide) (by decide)).mono ?_
  rintro e w' ⟨he, d', hp, hs, hg⟩
  obtain ⟨hd, hpp⟩ := perm3 rfl hp
  have m0 : d'[0]! = 65534 ∧ d'[2]! = 2 := by
    obtain ⟨l⟩ := d'
    match l, hd with
    | [a, b, c], _ =>
      have hn : [a, b, c].Nodup := hpp.nodup_iff.2 (by decide)
      have ha : a ∈ [(65535 : Int), 2, 65534] := hpp.mem_iff.1 (by simp)
      have hb' : b ∈ [(65535 : Int), 2, 65534] := hpp.mem_iff.1 (by simp)
      have hc : c ∈ [(65535 : Int), 2, 65534] := hpp.mem_iff.1 (by simp)
      have s1 := hs 0 1 (by decide) (by decide) (by decide)
      have s2 := hs 1 2 (by decide) (by decide) (by decide)
      have s3 := hs 0 2 (by decide) (by decide) (by decide)
      show a = 65534 ∧ c = 2
      change ltC (Ser.by 65535) b a = false at s1
      change ltC (Ser.by 65535) c b = false at s2
      change ltC (Ser.by 65535) c a = false at s3
      simp only [List.mem_cons, List.not_mem_nil, or_false] at ha hb' hc
      rcases ha with rfl | rfl | rfl <;> rcases hb' with rfl | rfl | rfl <;> rcases hc with rfl | rfl | rfl <;> revert hn s1 s2 s3 <;> decide
  have c0 := hg.cell 0 (by omega)
  have c2 := hg.cell 2 (by omega)
  rw [m0.1] at c0
  rw [m0.2] at c2
  exact ⟨he, by simpa using c0, by simpa using c2, hg.others⟩
set_option maxHeartbeats 1000000 in
set_option maxRecDepth 100000 in
theorem alive_any (w : World) : Calls Try.prog 9 #[] w (TrueBelow w) := by
  have hW : Wd w.heap.size 0 (w.alloc (.cells #[.int .i64 0] 34)) := ⟨by simp [go_sem], by simp [go_sem]⟩
  have hB : Below w.heap.size w (w.alloc (.cells #[.int .i64 0] 34)) := (Below.refl _ _).alloc (Nat.le_refl _) _
  go_enter Try.func9, Try.ntmps9
  go_wp2_with fail
  refine (peek_any w.heap.size 0 65535 _ hW (.inl rfl) (by omega) (by omega)).mono ?_
  rintro e w1 ⟨rfl, k1, rfl⟩
  rw [show Ser.extend 0 65535 = 4295032831 from by decide]
  have hW1 : Wd w.heap.size 0 ((w.alloc (.cells #[.int .i64 0] 34)).drewN k1) := ⟨hW.cell, hW.fro⟩
  have hB1 : Below w.heap.size w ((w.alloc (.cells #[.int .i64 0] 34)).drewN k1) := ⟨hB.os, hB.tape, hB.output, hB.size, hB.block⟩
  have hz1 : w.heap.size < ((w.alloc (.cells #[.int .i64 0] 34)).drewN k1).heap.size := by simp
  clear hW hB
  go_wp2_with fail
  generalize (w.alloc (.cells #[.int .i64 0] 34)).drewN k1 = w1 at hW1 hB1 hz1 ⊢
  refine (started_any _ _ _ hW1.cell).mono ?_
  rintro e _ ⟨rfl, rfl⟩
  go_wp2_with fail
  refine (of_any w.heap.size 0 65535 _ hW1 (.inl rfl) (by omega) (by omega)).mono ?_
  rintro e w2 ⟨rfl, hW2, hG2, hz2⟩
  rw [show Ser.high 0 65535 = 4295032831 from by decide] at hW2
  rw [show Ser.extend 0 65535 = 4295032831 from by decide]
  go_wp2_with fail
  refine (of_any w.heap.size 4295032831 1 _ hW2 (.inr ⟨by omega, by omega⟩) (by omega) (by omega)).mono ?_
  rintro e w3 ⟨rfl, hW3, hG3, hz3⟩
  rw [show Ser.high 4295032831 1 = 4295032833 from by decide] at hW3
  rw [show Ser.extend 4295032831 1 = 4295032833 from by decide]
  have hB3 : Below w.heap.size w w3 := (hB1.grown hG2 (by omega) (fun k h => by injection h with h; omega)).grown hG3 (by omega) (fun k h => by injection h with h; omega)
  have hz4 : w.heap.size < w3.heap.size := by omega
  clear hG2 hG3 hW2 hW1 hB1 hz2 hz3 hz1
  go_wp2_with fail
  have hC : ∀ j v, (#[Value.int .u16 65535, .int .u16 2, .int .u16 65534] : Array Value)[j]? = some v → (w3.alloc (.cells #[.int .u16 65535, .int .u16 2, .int .u16 65534] 22)).cell? ⟨w3.heap.size, j, none⟩ = some v := fun j v h => by simpa [go_sem] using h
  have hF : ∀ j, (w3.alloc (.cells #[.int .u16 65535, .int .u16 2, .int .u16 65534] 22)).frozen? ⟨w3.heap.size, j, none⟩ = false := fun j => by simp [go_sem]
  have hc0 := hC 0 _ rfl
  have hc1 := hC 1 _ rfl
  have hc2 := hC 2 _ rfl
  have hW4 : Wd w.heap.size 4295032833 (w3.alloc (.cells #[.int .u16 65535, .int .u16 2, .int .u16 65534] 22)) := ⟨by rw [← hW3.cell]; exact World.cell?_of_block (Below.heap_alloc _ _ _ hz4), by rw [← hW3.fro]; exact World.frozen?_of_block (Below.heap_alloc _ _ _ hz4)⟩
  have hB4 : RowKit.Below w.heap.size w (w3.alloc (.cells #[.int .u16 65535, .int .u16 2, .int .u16 65534] 22)) := hB3.alloc (by omega) _
  have hz5 : w3.heap.size < (w3.alloc (.cells #[.int .u16 65535, .int .u16 2, .int .u16 65534] 22)).heap.size := by simp
  clear hC hW3 hB3
  generalize w3.alloc (.cells #[.int .u16 65535, .int .u16 2, .int .u16 65534] 22) = w4 at hF hc0 hc1 hc2 hW4 hB4 hz5 ⊢
  refine (span3 _ _ hc0 hc1 hc2).mono ?_
  rintro e _ ⟨rfl, rfl⟩
  have HF := Lib.hid hF; clear hF
  go_wp2_with fail
  refine (sort3 _ _ hc0 hc1 hc2 HF.out hz5).mono ?_
  rintro e w5 ⟨rfl, d0, d2, hG5⟩
  have hne : (some w.heap.size : Option Nat) ≠ some w3.heap.size := fun h => by injection h with h; omega
  have hW5 : Wd w.heap.size 4295032833 w5 := ⟨hG5.cell hW4.cell hne, by rw [← hW4.fro]; exact World.frozen?_of_block (hG5.block _ (by show w.heap.size < _; omega) hne)⟩
  have hB5 : RowKit.Below w.heap.size w w5 := hB4.grown hG5 (by omega) (fun k h => by injection h with h; omega)
  clear hW4 hB4 hc0 hc1 hc2 HF hne
  have n1 : Ser.newer 2 65535 = true := by decide
  have n2 : Ser.newer 5 5 = false := by decide
  have n3 : Ser.ahead 2 65535 = 3 := by decide
  have n4 : Ser.ahead32 0 4294967295 = 1 := by decide
  have n5 : Ser.later 1 65535 = 1 := by decide
  have n6 : Ser.add 65535 3 = 2 := by decide
  have n7 : Ser.add32 1 (-2) = 4294967295 := by decide
  go_wp2_with (first
    | (go_at_call 11; refine (ahead_any _ _ _).mono ?_; rintro e w' ⟨rfl, rfl⟩)
    | (go_at_call 12; refine (ahead32_any _ _ _).mono ?_; rintro e w' ⟨rfl, rfl⟩)
    | (go_at_call 14; refine (newer_any _ _ _).mono ?_; rintro e w' ⟨rfl, rfl⟩)
    | (go_at_call 15; refine (max_any _ _ _).mono ?_; rintro e w' ⟨rfl, rfl⟩)
    | (go_at_call 16; refine (add_any _ _ _).mono ?_; rintro e w' ⟨rfl, rfl⟩)
    | (go_at_call 18; refine (add32_any _ _ _).mono ?_; rintro e w' ⟨rfl, rfl⟩)
    | (go_at_call 23; refine (started_any _ _ _ hW5.cell).mono ?_; rintro e w' ⟨rfl, rfl⟩)
    | (go_at_call 24; refine (highest_any _ _ _ hW5.cell).mono ?_; rintro e w' ⟨rfl, rfl⟩))
  go_ret
  exact ⟨rfl, hB5⟩
end Go.Proofs.Ythmnkccmnajfgaa

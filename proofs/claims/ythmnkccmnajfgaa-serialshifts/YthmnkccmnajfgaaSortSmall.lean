/-
  serial.Sort of fewer than 20 numbers.
-/
import Derived.Test.YthmnkccmnajfgaaSortIns
import Derived.Test.YthmnkccmnajfgaaSortCmp
namespace Go.Proofs.Ythmnkccmnajfgaa
open Go.RowKit Go.Sort
set_option linter.unusedVariables false
set_option maxHeartbeats 1000000 in
set_option maxRecDepth 100000 in
theorem stable_small (blk off cap : Nat) (cb : Value) (cf : Int → Int → Int) (d : Array Int) (w0 w : World)
    (hcmp : CmpOk Try.prog 32 cb cf blk off d.size w0) (S : SRow blk off w0 d w) (hsz : d.size < 20) :
    Calls Try.prog 34 #[.slice (some ⟨blk, off, none⟩) d.size cap, .int .i64 d.size, .func (.func 32) #[] #[cb]] w (SortPost blk off w0 (· = insertionSort (ltC cf) d 0 d.size)) := by
  have hi := insertion_any blk off cap 0 d.size cb cf d w0 w hcmp S (Nat.zero_le _) (Nat.le_refl _) (by omega)
  have HI := Lib.hid hi; clear hi hcmp S
  have h1 : ¬ (20 : Int) ≤ (d.size : Int) := by omega
  have h2 : ¬ (20 : Int) < (d.size : Int) := by omega
  go_enter Try.func34, Try.ntmps34
  go_wp2
  refine wp_loop_rounds 1 ?_
  rw [rounds_succ]
  go_wp2_with (go_at_call 36; refine HI.out.mono ?_; rintro e w1 ⟨rfl, d1, S1, H1⟩)
  refine wp_loop_rounds 1 ?_
  rw [rounds_succ]
  go_wp2
  go_end0
  exact ⟨rfl, d1, S1, H1⟩

/-- The row of block blk holds d; all other blocks of w0 are as they were (there may be new ones). -/
structure GRow (blk off : Nat) (w0 : World) (d : Array Int) (w : World) : Prop where
  cell : ∀ j, j < d.size → w.cell? ⟨blk, off + j, none⟩ = some (.int .u16 d[j]!)
  fro : ∀ j, j < d.size → w.frozen? ⟨blk, off + j, none⟩ = false
  others : w0.grownBy w (some blk)
def SortedPost (blk off : Nat) (f : Int) (d : Array Int) (w : World) (e : Ending) (w' : World) : Prop :=
  e = .returned (.tuple #[]) ∧ ∃ d', PermIn 0 d.size d d' ∧ SortedIn (ltC (Ser.by f)) 0 d.size d' ∧ GRow blk off w d' w'

theorem sortStable_of (Q : Array Int → Prop) (blk off cap n : Nat) (cb : Value) (w0 w : World)
    (h : Calls Try.prog 34 #[.slice (some ⟨blk, off, none⟩) n cap, .int .i64 n, .func (.func 32) #[] #[cb]] w (SortPost blk off w0 Q)) :
    Calls Try.prog 31 #[.slice (some ⟨blk, off, none⟩) n cap, .func (.func 32) #[] #[cb]] w (SortPost blk off w0 Q) := by
  have H := Lib.hid h; clear h
  go_enter Try.func31, Try.ntmps31
  go_wp2_with (go_at_call 34; refine H.out.mono ?_; rintro e w1 ⟨rfl, d1, S1, H1⟩)
  go_end0
  exact ⟨rfl, d1, S1, H1⟩

/-- serial.Sort, out of what the stable sort does (in every world, at this length). -/
theorem sort_of (blk off cap : Nat) (d : Array Int) (w : World) (hcell : ∀ j, j < d.size → w.cell? ⟨blk, off + j, none⟩ = some (.int .u16 d[j]!)) (hfro : ∀ j, j < d.size → w.frozen? ⟨blk, off + j, none⟩ = false) (hblk : blk < w.heap.size) (h0 : 0 < d.size) (hsz : d.size < 4611686018427387904)
    (hst : ∀ (cb : Value) (w1 : World), CmpOk Try.prog 32 cb (Ser.by d[0]!) blk off d.size w1 → SRow blk off w1 d w1 →
      Calls Try.prog 34 #[.slice (some ⟨blk, off, none⟩) d.size cap, .int .i64 d.size, .func (.func 32) #[] #[cb]] w1 (SortPost blk off w1 fun d' => PermIn 0 d.size d d' ∧ SortedIn (ltC (Ser.by d[0]!)) 0 d.size d')) :
    Calls Try.prog 27 #[.slice (some ⟨blk, off, none⟩) d.size cap] w (SortedPost blk off d[0]! d w) := by
  have c0 := hcell 0 h0
  simp only [Nat.add_zero] at c0
  have hS : SRow blk off (w.alloc (.cells #[.int .u16 d[0]!] 22)) d (w.alloc (.cells #[.int .u16 d[0]!] 22)) :=
    ⟨fun j hj => by rw [← hcell j hj]; exact World.cell?_of_block (Below.heap_alloc _ _ _ hblk), fun j hj => by rw [← hfro j hj]; exact World.frozen?_of_block (Below.heap_alloc _ _ _ hblk), World.grownBy.refl _ _, rfl⟩
  have hcm : CmpOk Try.prog 32 (.pointer (some ⟨w.heap.size, 0, none⟩)) (Ser.by d[0]!) blk off d.size (w.alloc (.cells #[.int .u16 d[0]!] 22)) := by
    intro dk wk _ Sk i j _ _
    refine sortfn_any _ _ _ _ _ ?_
    have hne : (some w.heap.size : Option Nat) ≠ some blk := fun h => by injection h with h; omega
    refine Sk.others.cell (a := ⟨w.heap.size, 0, none⟩) ?_ hne
    simp [go_sem]
  have hs := sortStable_of _ blk off cap d.size (.pointer (some ⟨w.heap.size, 0, none⟩)) _ _ (hst _ _ hcm hS)
  have HS := Lib.hid hs
  generalize hx : d[0]! = x at *
  clear hst hS hcm hs hcell hfro
  have hz : ((d.size : Int) == 0) = false := beq_eq_false_iff_ne.2 (by omega)
  have hp : (0 : Int) < (d.size : Int) := by omega
  have X := Lib.hid hx; clear hx
  go_enter Try.func27, Try.ntmps27
  go_wp2_with (go_at_call 31; refine HS.out.mono ?_; rintro e w1 ⟨rfl, d1, S1, H1⟩)
  go_end0
  refine ⟨rfl, d1, H1.1, H1.2, S1.cell, S1.fro, gb_trans (World.grownBy_alloc w _ _) S1.others⟩
theorem sort_none (a : Option Addr) (cap : Nat) (w : World) :
    Calls Try.prog 27 #[.slice a 0 cap] w fun e w' => e = .returned (.tuple #[]) ∧ w = w' := by
  go_enter Try.func27, Try.ntmps27
  go_wp2
  (try simp only [Exit.inBlock, Exit.then]); refine bodyPost_ret (results_none rfl _ _ _) rfl ?_
  exact ⟨rfl, rfl⟩
theorem sort_small (blk off cap : Nat) (d : Array Int) (w : World) (hcell : ∀ j, j < d.size → w.cell? ⟨blk, off + j, none⟩ = some (.int .u16 d[j]!)) (hfro : ∀ j, j < d.size → w.frozen? ⟨blk, off + j, none⟩ = false) (hblk : blk < w.heap.size) (h0 : 0 < d.size) (hsz : d.size < 20) :
    Calls Try.prog 27 #[.slice (some ⟨blk, off, none⟩) d.size cap] w (SortedPost blk off d[0]! d w) :=
  sort_of blk off cap d w hcell hfro hblk h0 (by omega) fun cb w1 hc hS => (stable_small blk off cap cb _ d w1 w1 hc hS hsz).mono fun e w' ⟨he, d', S', H'⟩ =>
    ⟨he, d', S', by rw [H']; exact insertionSort_holds (Ser.by_swo _) d 0 d.size (Nat.zero_le _) (Nat.le_refl _)⟩
end Go.Proofs.Ythmnkccmnajfgaa

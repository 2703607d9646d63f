
/-
  rtp.Parse.
-/
import Derived.Test.YtedhmoihlfjbdaaRtpParse4
namespace Go.Proofs.Ytedhmoihlfjbdaa
open Go.RowKit Go.Shelf
set_option linter.unusedVariables false
def pcodeF (n : Nat) (l : List Int) : Int := if 1500 < n then 2 else pcode n l
/-- What Parse leaves: an error and the empty packet, or a packet in new memory. -/
def POut (f : Int) (p : Pk) (w : World) (e : Ending) (w' : World) : Prop :=
  (f ≠ 0 → e = .returned (.tuple #[.agg #[.bool false, .int .i64 0, .int .u16 0, .int .u32 0, .int .u32 0, .slice none 0 0, .bool false, .int .u16 0, .slice none 0 0, .slice none 0 0, .slice none 0 0], .int .i64 f]) ∧ Below w.heap.size w w') ∧
  (f = 0 → ∃ s, e = .returned (.tuple #[.agg (pkc p s), .int .i64 0]) ∧ PkIn w' w.heap.size p s ∧ Below w.heap.size w w')
theorem rp_nil (w : World) : (binOp .neq 138 (.func (.func 76) #[] #[]) .nilFunc).run Try.prog w = .ok (.bool true) w := by kernel_rfl
theorem rp_ent (args : Array Value) (w : World) : (callFunc 76 args).run Try.prog w = .ok (.enter 76 args) w := by
  first | kernel_rfl | simp [go_sem]
theorem rp_ag (base : Nat) (p : Pk) (v : Value) (W : World) (h : QPk base p v W) : ∃ x0 x1 x2 x3 x4 a5 n5 c5 x6 x7 a8 n8 c8 a9 n9 c9 a10 n10 c10, v = .agg #[.bool x0, .int .i64 x1, .int .u16 x2, .int .u32 x3, .int .u32 x4, .slice a5 n5 c5, .bool x6, .int .u16 x7, .slice a8 n8 c8, .slice a9 n9 c9, .slice a10 n10 c10] := by
  obtain ⟨s, rfl, _⟩ := h
  exact ⟨_, _, _, _, _, _, _, _, _, _, _, _, _, _, _, _, _, _, _, rfl⟩
theorem PkIn.mono {W : World} {base base' : Nat} {p : Pk} {s : Pl} (h : PkIn W base p s) (hb : base' ≤ base) : PkIn W base' p s :=
  ⟨h.csrc.mono hb, h.ext.mono hb, h.pay.mono hb, h.pad.mono hb, h.seq, h.ts, h.ssrc, h.prof⟩
theorem readF_any (a : Option Addr) (n c : Nat) (l : List Int) (w : World) (hb : BAt w a n l) (hc : n ≤ c) (hn : n ≤ 1500) :
    (pcode n l ≠ 0 → Calls Try.prog 75 #[.slice a n c, .func (.func 76) #[] #[]] w (ReadFail (.agg #[.bool false, .int .i64 0, .int .u16 0, .int .u32 0, .int .u32 0, .slice none 0 0, .bool false, .int .u16 0, .slice none 0 0, .slice none 0 0, .slice none 0 0]) (pcode n l) w)) ∧
    (pcode n l = 0 → Calls Try.prog 75 #[.slice a n c, .func (.func 76) #[] #[]] w (ReadS (QPk ((w.alloc (.cells #[.bool false, .int .i64 0, .int .u16 0, .int .u32 0, .int .u32 0, .slice none 0 0, .bool false, .int .u16 0, .slice none 0 0, .slice none 0 0, .slice none 0 0] 71)).heap.size + 6) (ppk l)) w)) := by
  have hb1 : BAt (w.alloc (.cells #[.bool false, .int .i64 0, .int .u16 0, .int .u32 0, .int .u32 0, .slice none 0 0, .bool false, .int .u16 0, .slice none 0 0, .slice none 0 0, .slice none 0 0] 71)) a n l := hb.below ((Below.refl _ w).alloc (Nat.le_refl _) _)
  have hrd := part_rd_pk (w.alloc (.cells #[.bool false, .int .i64 0, .int .u16 0, .int .u32 0, .int .u32 0, .slice none 0 0, .bool false, .int .u16 0, .slice none 0 0, .slice none 0 0, .slice none 0 0] 71)) a n c l hb1 hc
  have hrp := readPacket_any _ _ a n c l _ hrd hn
  refine ⟨fun hf => ?_, fun hf => ?_⟩
  · exact read_fail_pk a n c _ #[] (pcode n l) w (by simpa using hf) ⟨rp_nil, rp_ent, hrp.mono fun e w' h => h.1 hf⟩
  · refine read_ok_pk a n c _ #[] [] _ w (by omega) (QPk.steady _ _) (rp_ag _ _) ⟨rp_nil, rp_ent, QPk.steady _ _, rp_ag _ _, hrp.mono fun e w' h => ?_⟩
    have := h.2 hf
    rwa [part_sz_pk] at this
set_option maxHeartbeats 2000000 in
set_option maxRecDepth 100000 in
theorem parse5_long (a : Option Addr) (n c : Nat) (w : World) (hn : 1500 < n) (hn2 : n ≤ 9223372036854775807) :
    Calls Try.prog 34 #[.slice a n c] w (ValB (.tuple #[.agg #[.bool false, .int .i64 0, .int .u16 0, .int .u32 0, .int .u32 0, .slice none 0 0, .bool false, .int .u16 0, .slice none 0 0, .slice none 0 0, .slice none 0 0], .int .i64 2]) w) := by
  have h1 : (1500 : Int) < (n : Int) := by omega
  go_enter Try.func34, Try.ntmps34
  go_wp2
  exact bodyPost_ret (v := .tuple #[.agg #[.bool false, .int .i64 0, .int .u16 0, .int .u32 0, .int .u32 0, .slice none 0 0, .bool false, .int .u16 0, .slice none 0 0, .slice none 0 0, .slice none 0 0], .int .i64 2]) (by simp [results, Try.results34, go_sem]) rfl ⟨rfl, (Below.refl _ w).alloc (Nat.le_refl _) _⟩
set_option maxHeartbeats 2000000 in
set_option maxRecDepth 100000 in
theorem parse5_no (a : Option Addr) (n c : Nat) (f : Int) (w : World) (hn : n ≤ 1500)
    (hr : Calls Try.prog 75 #[.slice a n c, .func (.func 76) #[] #[]] (w.alloc (.cells #[.bool false, .int .i64 0, .int .u16 0, .int .u32 0, .int .u32 0, .slice none 0 0, .bool false, .int .u16 0, .slice none 0 0, .slice none 0 0, .slice none 0 0] 71)) (ReadFail (.agg #[.bool false, .int .i64 0, .int .u16 0, .int .u32 0, .int .u32 0, .slice none 0 0, .bool false, .int .u16 0, .slice none 0 0, .slice none 0 0, .slice none 0 0]) f (w.alloc (.cells #[.bool false, .int .i64 0, .int .u16 0, .int .u32 0, .int .u32 0, .slice none 0 0, .bool false, .int .u16 0, .slice none 0 0, .slice none 0 0, .slice none 0 0] 71)))) :
    Calls Try.prog 34 #[.slice a n c] w (ValB (.tuple #[.agg #[.bool false, .int .i64 0, .int .u16 0, .int .u32 0, .int .u32 0, .slice none 0 0, .bool false, .int .u16 0, .slice none 0 0, .slice none 0 0, .slice none 0 0], .int .i64 f]) w) := by
  have h1 : ¬ (1500 : Int) < (n : Int) := by omega
  have HR := Lib.hid hr; clear hr
  go_enter Try.func34, Try.ntmps34
  go_wp2_with fail
  refine (HR.out).mono ?_
  rintro e w2 ⟨rfl, hB⟩
  have hz2 : w.heap.size < w2.heap.size := by have := hB.size; simp at this; omega
  have hb4 : w2.heap[w.heap.size]? = some (.cells #[.bool false, .int .i64 0, .int .u16 0, .int .u32 0, .int .u32 0, .slice none 0 0, .bool false, .int .u16 0, .slice none 0 0, .slice none 0 0, .slice none 0 0] 71 (0, 0)) := (hB.block w.heap.size (by simp)).trans (heap_alloc_new w _)
  have hlow : Below w.heap.size w w2 := ((Below.refl _ w).alloc (Nat.le_refl _) _).trans (hB.mono (by simp))
  have HB4 := Lib.hid hb4; have HLOW := Lib.hid hlow
  clear hB hlow HR
  have d0 : w2.cell? ⟨w.heap.size, 0, none⟩ = some (.bool false) := by rw [cell_of_row w2 _ 0 _ _ _ hb4]; rfl
  have d1 : w2.cell? ⟨w.heap.size, 1, none⟩ = some (.int .i64 0) := by rw [cell_of_row w2 _ 1 _ _ _ hb4]; rfl
  have d2 : w2.cell? ⟨w.heap.size, 2, none⟩ = some (.int .u16 0) := by rw [cell_of_row w2 _ 2 _ _ _ hb4]; rfl
  have d3 : w2.cell? ⟨w.heap.size, 3, none⟩ = some (.int .u32 0) := by rw [cell_of_row w2 _ 3 _ _ _ hb4]; rfl
  have d4 : w2.cell? ⟨w.heap.size, 4, none⟩ = some (.int .u32 0) := by rw [cell_of_row w2 _ 4 _ _ _ hb4]; rfl
  have d5 : w2.cell? ⟨w.heap.size, 5, none⟩ = some (.slice none 0 0) := by rw [cell_of_row w2 _ 5 _ _ _ hb4]; rfl
  have d6 : w2.cell? ⟨w.heap.size, 6, none⟩ = some (.bool false) := by rw [cell_of_row w2 _ 6 _ _ _ hb4]; rfl
  have d7 : w2.cell? ⟨w.heap.size, 7, none⟩ = some (.int .u16 0) := by rw [cell_of_row w2 _ 7 _ _ _ hb4]; rfl
  have d8 : w2.cell? ⟨w.heap.size, 8, none⟩ = some (.slice none 0 0) := by rw [cell_of_row w2 _ 8 _ _ _ hb4]; rfl
  have d9 : w2.cell? ⟨w.heap.size, 9, none⟩ = some (.slice none 0 0) := by rw [cell_of_row w2 _ 9 _ _ _ hb4]; rfl
  have d10 : w2.cell? ⟨w.heap.size, 10, none⟩ = some (.slice none 0 0) := by rw [cell_of_row w2 _ 10 _ _ _ hb4]; rfl
  have df : ∀ o, w2.frozen? ⟨w.heap.size, o, none⟩ = false := fun o => frozen_of_row w2 _ o _ _ hb4
  clear hb4
  go_wp2
  obtain ⟨w3, hw3⟩ : ∃ w3, putL w2 w.heap.size 0 [.bool false, .int .i64 0, .int .u16 0, .int .u32 0, .int .u32 0, .slice none 0 0, .bool false, .int .u16 0, .slice none 0 0, .slice none 0 0, .slice none 0 0] = w3 := ⟨_, rfl⟩
  have P3 : Put w2 w3 w.heap.size #[.bool false, .int .i64 0, .int .u16 0, .int .u32 0, .int .u32 0, .slice none 0 0, .bool false, .int .u16 0, .slice none 0 0, .slice none 0 0, .slice none 0 0] 71 := by rw [← hw3]; exact putL_is (us := [.bool false, .int .i64 0, .int .u16 0, .int .u32 0, .int .u32 0, .slice none 0 0, .bool false, .int .u16 0, .slice none 0 0, .slice none 0 0, .slice none 0 0]) HB4.out rfl
  simp only [putL, Nat.zero_add, Nat.reduceAdd] at hw3
  rw [hw3]
  have hl4 : Below w.heap.size w w3 := HLOW.out.grown P3.grown HLOW.out.size (fun k e => by cases e; omega)
  have q4 := P3.row
  have HF := Lib.hid (show ValB (.tuple #[.agg #[.bool false, .int .i64 0, .int .u16 0, .int .u32 0, .int .u32 0, .slice none 0 0, .bool false, .int .u16 0, .slice none 0 0, .slice none 0 0, .slice none 0 0], .int .i64 f]) w (.returned (.tuple #[.agg #[.bool false, .int .i64 0, .int .u16 0, .int .u32 0, .int .u32 0, .slice none 0 0, .bool false, .int .u16 0, .slice none 0 0, .slice none 0 0, .slice none 0 0], .int .i64 f])) w3 from ⟨rfl, hl4⟩)
  clear hw3 P3 hl4 d0 d1 d2 d3 d4 d5 d6 d7 d8 d9 d10 df
  have d0 : w3.cell? ⟨w.heap.size, 0, none⟩ = some (.bool false) := by rw [cell_of_row w3 _ 0 _ _ _ q4]; rfl
  have d1 : w3.cell? ⟨w.heap.size, 1, none⟩ = some (.int .i64 0) := by rw [cell_of_row w3 _ 1 _ _ _ q4]; rfl
  have d2 : w3.cell? ⟨w.heap.size, 2, none⟩ = some (.int .u16 0) := by rw [cell_of_row w3 _ 2 _ _ _ q4]; rfl
  have d3 : w3.cell? ⟨w.heap.size, 3, none⟩ = some (.int .u32 0) := by rw [cell_of_row w3 _ 3 _ _ _ q4]; rfl
  have d4 : w3.cell? ⟨w.heap.size, 4, none⟩ = some (.int .u32 0) := by rw [cell_of_row w3 _ 4 _ _ _ q4]; rfl
  have d5 : w3.cell? ⟨w.heap.size, 5, none⟩ = some (.slice none 0 0) := by rw [cell_of_row w3 _ 5 _ _ _ q4]; rfl
  have d6 : w3.cell? ⟨w.heap.size, 6, none⟩ = some (.bool false) := by rw [cell_of_row w3 _ 6 _ _ _ q4]; rfl
  have d7 : w3.cell? ⟨w.heap.size, 7, none⟩ = some (.int .u16 0) := by rw [cell_of_row w3 _ 7 _ _ _ q4]; rfl
  have d8 : w3.cell? ⟨w.heap.size, 8, none⟩ = some (.slice none 0 0) := by rw [cell_of_row w3 _ 8 _ _ _ q4]; rfl
  have d9 : w3.cell? ⟨w.heap.size, 9, none⟩ = some (.slice none 0 0) := by rw [cell_of_row w3 _ 9 _ _ _ q4]; rfl
  have d10 : w3.cell? ⟨w.heap.size, 10, none⟩ = some (.slice none 0 0) := by rw [cell_of_row w3 _ 10 _ _ _ q4]; rfl
  clear q4
  exact bodyPost_ret (v := .tuple #[.agg #[.bool false, .int .i64 0, .int .u16 0, .int .u32 0, .int .u32 0, .slice none 0 0, .bool false, .int .u16 0, .slice none 0 0, .slice none 0 0, .slice none 0 0], .int .i64 f]) (by simp [results, Try.results34, go_sem, d0, d1, d2, d3, d4, d5, d6, d7, d8, d9, d10]) rfl HF.out
set_option maxHeartbeats 2000000 in
set_option maxRecDepth 100000 in
theorem parse5_yes (a : Option Addr) (n c : Nat) (p : Pk) (w : World) (hn : n ≤ 1500)
    (hr : Calls Try.prog 75 #[.slice a n c, .func (.func 76) #[] #[]] (w.alloc (.cells #[.bool false, .int .i64 0, .int .u16 0, .int .u32 0, .int .u32 0, .slice none 0 0, .bool false, .int .u16 0, .slice none 0 0, .slice none 0 0, .slice none 0 0] 71)) (ReadS (QPk (((w.alloc (.cells #[.bool false, .int .i64 0, .int .u16 0, .int .u32 0, .int .u32 0, .slice none 0 0, .bool false, .int .u16 0, .slice none 0 0, .slice none 0 0, .slice none 0 0] 71)).alloc (.cells #[.bool false, .int .i64 0, .int .u16 0, .int .u32 0, .int .u32 0, .slice none 0 0, .bool false, .int .u16 0, .slice none 0 0, .slice none 0 0, .slice none 0 0] 71)).heap.size + 6) p) (w.alloc (.cells #[.bool false, .int .i64 0, .int .u16 0, .int .u32 0, .int .u32 0, .slice none 0 0, .bool false, .int .u16 0, .slice none 0 0, .slice none 0 0, .slice none 0 0] 71)))) :
    Calls Try.prog 34 #[.slice a n c] w (fun e w' => ∃ s, e = .returned (.tuple #[.agg (pkc p s), .int .i64 0]) ∧ PkIn w' w.heap.size p s ∧ Below w.heap.size w w') := by
  have h1 : ¬ (1500 : Int) < (n : Int) := by omega
  have HR := Lib.hid hr; clear hr
  obtain ⟨Post, hPost⟩ : ∃ Post : Ending → World → Prop, (fun e w' => ∃ s, e = .returned (.tuple #[.agg (pkc p s), .int .i64 0]) ∧ PkIn w' w.heap.size p s ∧ Below w.heap.size w w') = Post := ⟨_, rfl⟩
  rw [hPost]
  have HPOST := Lib.hid hPost; clear hPost
  go_enter Try.func34, Try.ntmps34
  go_wp2_with fail
  refine (HR.out).mono ?_
  rintro e w2 ⟨v, rfl, ⟨⟨ac, nc, cc, ae, ne, ce, ap, np, cp, ad, nd, cd⟩, rfl, hpk⟩, hB⟩
  obtain ⟨m, pt, sq, ts, ss, cs, h, pr, ex, py, pd⟩ := p
  have hz2 : w.heap.size < w2.heap.size := by have := hB.size; simp at this; omega
  have hb4 : w2.heap[w.heap.size]? = some (.cells #[.bool false, .int .i64 0, .int .u16 0, .int .u32 0, .int .u32 0, .slice none 0 0, .bool false, .int .u16 0, .slice none 0 0, .slice none 0 0, .slice none 0 0] 71 (0, 0)) := (hB.block w.heap.size (by simp)).trans (heap_alloc_new w _)
  have hlow : Below w.heap.size w w2 := ((Below.refl _ w).alloc (Nat.le_refl _) _).trans (hB.mono (by simp))
  have HB4 := Lib.hid hb4; have HLOW := Lib.hid hlow; have HPK := Lib.hid hpk
  simp only [pkc] at *
  clear hB hlow HR hpk
  have d0 : w2.cell? ⟨w.heap.size, 0, none⟩ = some (.bool false) := by rw [cell_of_row w2 _ 0 _ _ _ hb4]; rfl
  have d1 : w2.cell? ⟨w.heap.size, 1, none⟩ = some (.int .i64 0) := by rw [cell_of_row w2 _ 1 _ _ _ hb4]; rfl
  have d2 : w2.cell? ⟨w.heap.size, 2, none⟩ = some (.int .u16 0) := by rw [cell_of_row w2 _ 2 _ _ _ hb4]; rfl
  have d3 : w2.cell? ⟨w.heap.size, 3, none⟩ = some (.int .u32 0) := by rw [cell_of_row w2 _ 3 _ _ _ hb4]; rfl
  have d4 : w2.cell? ⟨w.heap.size, 4, none⟩ = some (.int .u32 0) := by rw [cell_of_row w2 _ 4 _ _ _ hb4]; rfl
  have d5 : w2.cell? ⟨w.heap.size, 5, none⟩ = some (.slice none 0 0) := by rw [cell_of_row w2 _ 5 _ _ _ hb4]; rfl
  have d6 : w2.cell? ⟨w.heap.size, 6, none⟩ = some (.bool false) := by rw [cell_of_row w2 _ 6 _ _ _ hb4]; rfl
  have d7 : w2.cell? ⟨w.heap.size, 7, none⟩ = some (.int .u16 0) := by rw [cell_of_row w2 _ 7 _ _ _ hb4]; rfl
  have d8 : w2.cell? ⟨w.heap.size, 8, none⟩ = some (.slice none 0 0) := by rw [cell_of_row w2 _ 8 _ _ _ hb4]; rfl
  have d9 : w2.cell? ⟨w.heap.size, 9, none⟩ = some (.slice none 0 0) := by rw [cell_of_row w2 _ 9 _ _ _ hb4]; rfl
  have d10 : w2.cell? ⟨w.heap.size, 10, none⟩ = some (.slice none 0 0) := by rw [cell_of_row w2 _ 10 _ _ _ hb4]; rfl
  have df : ∀ o, w2.frozen? ⟨w.heap.size, o, none⟩ = false := fun o => frozen_of_row w2 _ o _ _ hb4
  clear hb4
  go_wp2
  obtain ⟨w3, hw3⟩ : ∃ w3, putL w2 w.heap.size 0 [.bool m, .int .i64 pt, .int .u16 sq, .int .u32 ts, .int .u32 ss, .slice ac nc cc, .bool h, .int .u16 pr, .slice ae ne ce, .slice ap np cp, .slice ad nd cd] = w3 := ⟨_, rfl⟩
  have P3 : Put w2 w3 w.heap.size #[.bool m, .int .i64 pt, .int .u16 sq, .int .u32 ts, .int .u32 ss, .slice ac nc cc, .bool h, .int .u16 pr, .slice ae ne ce, .slice ap np cp, .slice ad nd cd] 71 := by rw [← hw3]; exact putL_is (us := [.bool false, .int .i64 0, .int .u16 0, .int .u32 0, .int .u32 0, .slice none 0 0, .bool false, .int .u16 0, .slice none 0 0, .slice none 0 0, .slice none 0 0]) HB4.out rfl
  simp only [putL, Nat.zero_add, Nat.reduceAdd] at hw3
  rw [hw3]
  have hl4 : Below w.heap.size w w3 := HLOW.out.grown P3.grown HLOW.out.size (fun k e => by cases e; omega)
  have q4 := P3.row
  have hab := HPK.out.above (W' := w3) (Above.grown P3.grown (by simp; omega))
  have HF : Hid (Post (.returned (.tuple #[.agg #[.bool m, .int .i64 pt, .int .u16 sq, .int .u32 ts, .int .u32 ss, .slice ac nc cc, .bool h, .int .u16 pr, .slice ae ne ce, .slice ap np cp, .slice ad nd cd], .int .i64 0])) w3) := Lib.hid (by rw [← HPOST.out]; exact ⟨⟨ac, nc, cc, ae, ne, ce, ap, np, cp, ad, nd, cd⟩, rfl, hab.mono (by simp; omega), hl4⟩)
  clear hab
  clear hw3 P3 hl4 d0 d1 d2 d3 d4 d5 d6 d7 d8 d9 d10 df
  have d0 : w3.cell? ⟨w.heap.size, 0, none⟩ = some (.bool m) := by rw [cell_of_row w3 _ 0 _ _ _ q4]; rfl
  have d1 : w3.cell? ⟨w.heap.size, 1, none⟩ = some (.int .i64 pt) := by rw [cell_of_row w3 _ 1 _ _ _ q4]; rfl
  have d2 : w3.cell? ⟨w.heap.size, 2, none⟩ = some (.int .u16 sq) := by rw [cell_of_row w3 _ 2 _ _ _ q4]; rfl
  have d3 : w3.cell? ⟨w.heap.size, 3, none⟩ = some (.int .u32 ts) := by rw [cell_of_row w3 _ 3 _ _ _ q4]; rfl
  have d4 : w3.cell? ⟨w.heap.size, 4, none⟩ = some (.int .u32 ss) := by rw [cell_of_row w3 _ 4 _ _ _ q4]; rfl
  have d5 : w3.cell? ⟨w.heap.size, 5, none⟩ = some (.slice ac nc cc) := by rw [cell_of_row w3 _ 5 _ _ _ q4]; rfl
  have d6 : w3.cell? ⟨w.heap.size, 6, none⟩ = some (.bool h) := by rw [cell_of_row w3 _ 6 _ _ _ q4]; rfl
  have d7 : w3.cell? ⟨w.heap.size, 7, none⟩ = some (.int .u16 pr) := by rw [cell_of_row w3 _ 7 _ _ _ q4]; rfl
  have d8 : w3.cell? ⟨w.heap.size, 8, none⟩ = some (.slice ae ne ce) := by rw [cell_of_row w3 _ 8 _ _ _ q4]; rfl
  have d9 : w3.cell? ⟨w.heap.size, 9, none⟩ = some (.slice ap np cp) := by rw [cell_of_row w3 _ 9 _ _ _ q4]; rfl
  have d10 : w3.cell? ⟨w.heap.size, 10, none⟩ = some (.slice ad nd cd) := by rw [cell_of_row w3 _ 10 _ _ _ q4]; rfl
  clear q4
  exact bodyPost_ret (v := .tuple #[.agg #[.bool m, .int .i64 pt, .int .u16 sq, .int .u32 ts, .int .u32 ss, .slice ac nc cc, .bool h, .int .u16 pr, .slice ae ne ce, .slice ap np cp, .slice ad nd cd], .int .i64 0]) (by simp [results, Try.results34, go_sem, d0, d1, d2, d3, d4, d5, d6, d7, d8, d9, d10]) rfl HF.out
theorem parse5_any (a : Option Addr) (n c : Nat) (l : List Int) (w : World) (hb : BAt w a n l) (hc : n ≤ c) :
    Calls Try.prog 34 #[.slice a n c] w (POut (pcodeF n l) (ppk l) w) := by
  unfold POut pcodeF
  by_cases hn : 1500 < n
  · rw [if_pos hn]
    exact (parse5_long a n c w hn hb.lim).mono fun e w' h => ⟨fun _ => h, fun e => by cases e⟩
  · rw [if_neg hn]
    have hb1 : BAt (w.alloc (.cells #[.bool false, .int .i64 0, .int .u16 0, .int .u32 0, .int .u32 0, .slice none 0 0, .bool false, .int .u16 0, .slice none 0 0, .slice none 0 0, .slice none 0 0] 71)) a n l := hb.below ((Below.refl _ w).alloc (Nat.le_refl _) _)
    obtain ⟨r1, r2⟩ := readF_any a n c l _ hb1 hc (by omega)
    by_cases h0 : pcode n l = 0
    · exact (parse5_yes a n c (ppk l) w (by omega) (r2 h0)).mono fun e w' h => ⟨fun e => absurd h0 e, fun _ => h⟩
    · exact (parse5_no a n c (pcode n l) w (by omega) (r1 h0)).mono fun e w' h => ⟨fun _ => h, fun e => absurd e h0⟩
end Go.Proofs.Ytedhmoihlfjbdaa

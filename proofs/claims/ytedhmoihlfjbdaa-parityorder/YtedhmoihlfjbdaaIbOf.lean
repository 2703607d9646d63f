
/-
  imprint.Of.
-/
import Derived.Test.YtedhmoihlfjbdaaIbRead
namespace Go.Proofs.Ytedhmoihlfjbdaa
open Go.RowKit Go.Shelf
set_option linter.unusedVariables false
theorem own_above {W W' : World} {base : Nat} {a : Option Addr} {n c : Nat} {l : List Int} (h : Own W base a n c l) (hb : Above base W W') : Own W' base a n c l := by
  refine ⟨⟨h.row.1, ?_⟩, h.ok⟩
  rcases h.row.2 with h' | ⟨g, cap, cur, e, hb', hg, rest⟩
  · exact .inl h'
  · exact .inr ⟨g, cap, cur, e, hb', (hb.2 g hb' (Array.getElem?_eq_some_iff.1 hg).1).trans hg, rest⟩
def QBits (base : Nat) (l : List Int) (v : Value) (W : World) : Prop := ∃ a' c', v = .agg (ibc (ihd l) a' (l.length - 12) c') ∧ Own W base a' (l.length - 12) c' (l.drop 12)
theorem rb_nil (w : World) : (binOp .neq 127 (.func (.func 66) #[] #[]) .nilFunc).run Try.prog w = .ok (.bool true) w := by kernel_rfl
theorem rb_ent (args : Array Value) (w : World) : (callFunc 66 args).run Try.prog w = .ok (.enter 66 args) w := by
  first | kernel_rfl | simp [go_sem]
theorem readI_ok (a : Option Addr) (n c : Nat) (l : List Int) (w : World) (hb : BAt w a n l) (hc : n ≤ c) (hn : 12 ≤ n) (hn2 : n ≤ 1500) :
    Calls Try.prog 65 #[.slice a n c, .func (.func 66) #[] #[]] w (ReadS (QBits ((w.alloc (.cells #[.int .u8 0, .int .u8 0, .int .u8 0, .int .u8 0, .int .u8 0, .int .u8 0, .int .u8 0, .int .u8 0, .slice none 0 0] 57)).heap.size + 6) l) w) := by
  have hln := hb.len
  have hb1 := hb.below ((Below.refl _ w).alloc (Nat.le_refl _) (.cells #[.int .u8 0, .int .u8 0, .int .u8 0, .int .u8 0, .int .u8 0, .int .u8 0, .int .u8 0, .int .u8 0, .slice none 0 0] 57))
  have hst : Steady ((w.alloc (.cells #[.int .u8 0, .int .u8 0, .int .u8 0, .int .u8 0, .int .u8 0, .int .u8 0, .int .u8 0, .int .u8 0, .slice none 0 0] 57)).heap.size + 6) (QBits ((w.alloc (.cells #[.int .u8 0, .int .u8 0, .int .u8 0, .int .u8 0, .int .u8 0, .int .u8 0, .int .u8 0, .int .u8 0, .slice none 0 0] 57)).heap.size + 6) l) :=
    fun v W W' hA ⟨a', c', h1, h2⟩ => ⟨a', c', h1, own_above h2 hA⟩
  have hag : ∀ v W, QBits ((w.alloc (.cells #[.int .u8 0, .int .u8 0, .int .u8 0, .int .u8 0, .int .u8 0, .int .u8 0, .int .u8 0, .int .u8 0, .slice none 0 0] 57)).heap.size + 6) l v W → ∃ x0 x1 x2 x3 x4 x5 x6 x7 a8 n8 c8, v = .agg #[.int .u8 x0, .int .u8 x1, .int .u8 x2, .int .u8 x3, .int .u8 x4, .int .u8 x5, .int .u8 x6, .int .u8 x7, .slice a8 n8 c8] :=
    fun v W ⟨a', c', h1, _⟩ => ⟨_, _, _, _, _, _, _, _, _, _, _, h1⟩
  refine read_ok_ib a n c _ #[] [] _ w (by omega) hst hag ⟨rb_nil, rb_ent, hst, hag, ?_⟩
  have hp := readBits_ok _ _ a n c l _ (part_rd_ib _ a n c l hb1 hc) hn hn2
  rw [part_sz_ib, ← hln] at hp
  rw [← hln]
  exact hp
def OfOut (f : Int) (l : List Int) (w : World) (e : Ending) (w' : World) : Prop :=
  (f ≠ 0 → e = .returned (.tuple #[.agg #[.int .u8 0, .int .u8 0, .int .u8 0, .int .u8 0, .int .u8 0, .int .u8 0, .int .u8 0, .int .u8 0, .slice none 0 0], .int .i64 f]) ∧ Below w.heap.size w w') ∧
  (f = 0 → ∃ a' c', e = .returned (.tuple #[.agg (ibc (ihd l) a' (l.length - 12) c'), .int .i64 0]) ∧ Own w' w.heap.size a' (l.length - 12) c' (l.drop 12) ∧ Below w.heap.size w w')
theorem pcodeF_long {n : Nat} {l : List Int} (h : pcodeF n l = 0) : 12 ≤ n ∧ n ≤ 1500 := by
  unfold pcodeF at h
  split at h
  · cases h
  · unfold pcode at h
    have : 12 ≤ pat1 l := by unfold pat1; omega
    refine ⟨?_, by omega⟩
    repeat' split at h
    all_goals first | omega | (cases h; done) | skip
set_option maxHeartbeats 400000 in
set_option maxRecDepth 100000 in
theorem of_any (a : Option Addr) (n c : Nat) (l : List Int) (w : World) (hb : BAt w a n l) (hc : n ≤ c) :
    Calls Try.prog 27 #[.slice a n c] w (OfOut (pcodeF n l) l w) := by
  obtain ⟨w1, hw1⟩ : ∃ w1, w.alloc (.cells #[.int .u8 0, .int .u8 0, .int .u8 0, .int .u8 0, .int .u8 0, .int .u8 0, .int .u8 0, .int .u8 0, .slice none 0 0] 57) = w1 := ⟨_, rfl⟩
  have hB1 : Below w.heap.size w w1 := by rw [← hw1]; exact (Below.refl _ w).alloc (Nat.le_refl _) _
  have hx1 : w1.heap[w.heap.size]? = some (.cells #[.int .u8 0, .int .u8 0, .int .u8 0, .int .u8 0, .int .u8 0, .int .u8 0, .int .u8 0, .int .u8 0, .slice none 0 0] 57 (0, 0)) := by rw [← hw1]; exact lit_new rfl
  have hz1 : w1.heap.size = w.heap.size + 1 := by rw [← hw1]; simp
  have HP := Lib.hid (parse5_any a n c l w1 (hb.below hB1) hc)
  have HW1 := Lib.hid hw1; have HX1 := Lib.hid hx1; have HB1 := Lib.hid hB1
  clear hw1 hx1
  by_cases hf : pcodeF n l = 0
  · have hl := pcodeF_long hf
    rw [hf] at HP ⊢
    obtain ⟨Post, hPost⟩ : ∃ Post, OfOut 0 l w = Post := ⟨_, rfl⟩
    rw [hPost]
    have HPOST := Lib.hid hPost; clear hPost hf
    have HRD : Hid (∀ W, Below w1.heap.size w1 W → Calls Try.prog 65 #[.slice a n c, .func (.func 66) #[] #[]] W (ReadS (QBits ((W.alloc (.cells #[.int .u8 0, .int .u8 0, .int .u8 0, .int .u8 0, .int .u8 0, .int .u8 0, .int .u8 0, .int .u8 0, .slice none 0 0] 57)).heap.size + 6) l) W)) := Lib.hid fun W hW => readI_ok a n c l W ((hb.below hB1).below hW) hc hl.1 hl.2
    clear hb hB1
    go_enter Try.func27, Try.ntmps27
    go_wp2_with fail
    rw [HW1.out]
    refine (HP.out).mono ?_
    rintro e w2 ⟨_, h2⟩
    obtain ⟨s, rfl, _, hB2⟩ := h2 rfl
    obtain ⟨w2b, hw2b⟩ : ∃ W, w2.alloc (.cells (pkc (ppk l) s) 71) = W := ⟨_, rfl⟩
    have HB2 := Lib.hid (show Below w1.heap.size w1 w2b by rw [← hw2b]; exact hB2.alloc hB2.size _)
    have HW2B := Lib.hid hw2b
    unfold pkc at HW2B
    clear h2 hB2 HP hw2b
    unfold pkc
    go_wp2_with fail
    rw [HW2B.out]
    refine (HRD.out _ HB2.out).mono ?_
    rintro e w3 ⟨v, rfl, ⟨a3, c3, rfl, hO3⟩, hB3⟩
    have hx3 := (HB2.out.trans (hB3.mono HB2.out.size)).block w.heap.size (by omega) |>.trans HX1.out
    have HO3 : Hid (Own w3 (w.heap.size + 1) a3 (l.length - 12) c3 (l.drop 12)) := Lib.hid (hO3.mono (by have := HB2.out.size; simp; omega))
    have HL3 : Hid (Below w.heap.size w w3) := Lib.hid (HB1.out.trans ((HB2.out.trans (hB3.mono HB2.out.size)).mono HB1.out.size))
    obtain ⟨q0, q1, q2, q3, q4, q5, q6, q7, hq⟩ : ∃ q0 q1 q2 q3 q4 q5 q6 q7, ihd l = [q0, q1, q2, q3, q4, q5, q6, q7] := ⟨_, _, _, _, _, _, _, _, rfl⟩
    have HQ := Lib.hid hq
    rw [hq]
    simp only [ibc, List.getD_cons_zero, List.getD_cons_succ]
    generalize hn3 : l.length - 12 = n3 at *
    have HN3 := Lib.hid hn3
    clear hO3 hB3 HRD HB1 HB2 hq hn3
    have y0 : w3.cell? ⟨w.heap.size, 0, none⟩ = some (.int .u8 0) := by rw [cell_of_row w3 _ 0 _ _ _ hx3]; rfl
    have y1 : w3.cell? ⟨w.heap.size, 1, none⟩ = some (.int .u8 0) := by rw [cell_of_row w3 _ 1 _ _ _ hx3]; rfl
    have y2 : w3.cell? ⟨w.heap.size, 2, none⟩ = some (.int .u8 0) := by rw [cell_of_row w3 _ 2 _ _ _ hx3]; rfl
    have y3 : w3.cell? ⟨w.heap.size, 3, none⟩ = some (.int .u8 0) := by rw [cell_of_row w3 _ 3 _ _ _ hx3]; rfl
    have y4 : w3.cell? ⟨w.heap.size, 4, none⟩ = some (.int .u8 0) := by rw [cell_of_row w3 _ 4 _ _ _ hx3]; rfl
    have y5 : w3.cell? ⟨w.heap.size, 5, none⟩ = some (.int .u8 0) := by rw [cell_of_row w3 _ 5 _ _ _ hx3]; rfl
    have y6 : w3.cell? ⟨w.heap.size, 6, none⟩ = some (.int .u8 0) := by rw [cell_of_row w3 _ 6 _ _ _ hx3]; rfl
    have y7 : w3.cell? ⟨w.heap.size, 7, none⟩ = some (.int .u8 0) := by rw [cell_of_row w3 _ 7 _ _ _ hx3]; rfl
    have y8 : w3.cell? ⟨w.heap.size, 8, none⟩ = some (.slice none 0 0) := by rw [cell_of_row w3 _ 8 _ _ _ hx3]; rfl
    have fB : ∀ o, w3.frozen? ⟨w.heap.size, o, none⟩ = false := fun o => frozen_of_row w3 _ o _ _ hx3
    have HX3 := Lib.hid hx3; clear hx3
    go_wp2_with fail
    obtain ⟨w4, hw4⟩ : ∃ w4, putL w3 w.heap.size 0 [.int .u8 q0, .int .u8 q1, .int .u8 q2, .int .u8 q3, .int .u8 q4, .int .u8 q5, .int .u8 q6, .int .u8 q7, .slice a3 n3 c3] = w4 := ⟨_, rfl⟩
    have P4 : Put w3 w4 w.heap.size #[.int .u8 q0, .int .u8 q1, .int .u8 q2, .int .u8 q3, .int .u8 q4, .int .u8 q5, .int .u8 q6, .int .u8 q7, .slice a3 n3 c3] 57 := by rw [← hw4]; exact putL_is (us := [.int .u8 0, .int .u8 0, .int .u8 0, .int .u8 0, .int .u8 0, .int .u8 0, .int .u8 0, .int .u8 0, .slice none 0 0]) HX3.out rfl
    simp only [putL, Nat.zero_add, Nat.reduceAdd] at hw4
    rw [hw4]
    have q4' := P4.row
    have HF : Hid (Post (.returned (.tuple #[.agg #[.int .u8 q0, .int .u8 q1, .int .u8 q2, .int .u8 q3, .int .u8 q4, .int .u8 q5, .int .u8 q6, .int .u8 q7, .slice a3 n3 c3], .int .i64 0])) w4) := by
      rw [← HPOST.out]
      exact Lib.hid ⟨fun h => absurd rfl h, fun _ => ⟨a3, c3, by rw [HQ.out, HN3.out]; rfl, by rw [HN3.out]; exact (HO3.out.off P4.grown (by omega)).mono (by omega), HL3.out.grown P4.grown HL3.out.size (fun k e => by cases e; omega)⟩⟩
    clear hw4 P4 fB y0 y1 y2 y3 y4 y5 y6 y7 y8
    have f0 : w4.cell? ⟨w.heap.size, 0, none⟩ = some (.int .u8 q0) := by rw [cell_of_row w4 _ 0 _ _ _ q4']; rfl
    have f1 : w4.cell? ⟨w.heap.size, 1, none⟩ = some (.int .u8 q1) := by rw [cell_of_row w4 _ 1 _ _ _ q4']; rfl
    have f2 : w4.cell? ⟨w.heap.size, 2, none⟩ = some (.int .u8 q2) := by rw [cell_of_row w4 _ 2 _ _ _ q4']; rfl
    have f3 : w4.cell? ⟨w.heap.size, 3, none⟩ = some (.int .u8 q3) := by rw [cell_of_row w4 _ 3 _ _ _ q4']; rfl
    have f4 : w4.cell? ⟨w.heap.size, 4, none⟩ = some (.int .u8 q4) := by rw [cell_of_row w4 _ 4 _ _ _ q4']; rfl
    have f5 : w4.cell? ⟨w.heap.size, 5, none⟩ = some (.int .u8 q5) := by rw [cell_of_row w4 _ 5 _ _ _ q4']; rfl
    have f6 : w4.cell? ⟨w.heap.size, 6, none⟩ = some (.int .u8 q6) := by rw [cell_of_row w4 _ 6 _ _ _ q4']; rfl
    have f7 : w4.cell? ⟨w.heap.size, 7, none⟩ = some (.int .u8 q7) := by rw [cell_of_row w4 _ 7 _ _ _ q4']; rfl
    have f8 : w4.cell? ⟨w.heap.size, 8, none⟩ = some (.slice a3 n3 c3) := by rw [cell_of_row w4 _ 8 _ _ _ q4']; rfl
    clear q4'
    exact bodyPost_ret (v := .tuple #[.agg #[.int .u8 q0, .int .u8 q1, .int .u8 q2, .int .u8 q3, .int .u8 q4, .int .u8 q5, .int .u8 q6, .int .u8 q7, .slice a3 n3 c3], .int .i64 0]) (by simp [results, Try.results27, go_sem, f0, f1, f2, f3, f4, f5, f6, f7, f8]) rfl HF.out
  · have hfb : (pcodeF n l != 0) = true := by simpa using hf
    generalize pcodeF n l = f at *
    clear hb hB1
    go_enter Try.func27, Try.ntmps27
    go_wp2_with fail
    rw [HW1.out]
    refine (HP.out).mono ?_
    rintro e w2 ⟨h2, _⟩
    obtain ⟨rfl, hB2'⟩ := h2 hf
    have hB2 : Below w1.heap.size w1 (w2.alloc (.cells #[.bool false, .int .i64 0, .int .u16 0, .int .u32 0, .int .u32 0, .slice none 0 0, .bool false, .int .u16 0, .slice none 0 0, .slice none 0 0, .slice none 0 0] 71)) := hB2'.alloc hB2'.size _
    clear hB2'
    have hx3 := hB2.block w.heap.size (by omega) |>.trans HX1.out
    have HL3 : Hid (Below w.heap.size w (w2.alloc (.cells #[.bool false, .int .i64 0, .int .u16 0, .int .u32 0, .int .u32 0, .slice none 0 0, .bool false, .int .u16 0, .slice none 0 0, .slice none 0 0, .slice none 0 0] 71))) := Lib.hid (HB1.out.trans (hB2.mono HB1.out.size))
    clear h2 hB2 HP
    have y0 : (w2.alloc (.cells #[.bool false, .int .i64 0, .int .u16 0, .int .u32 0, .int .u32 0, .slice none 0 0, .bool false, .int .u16 0, .slice none 0 0, .slice none 0 0, .slice none 0 0] 71)).cell? ⟨w.heap.size, 0, none⟩ = some (.int .u8 0) := by rw [cell_of_row (w2.alloc (.cells #[.bool false, .int .i64 0, .int .u16 0, .int .u32 0, .int .u32 0, .slice none 0 0, .bool false, .int .u16 0, .slice none 0 0, .slice none 0 0, .slice none 0 0] 71)) _ 0 _ _ _ hx3]; rfl
    have y1 : (w2.alloc (.cells #[.bool false, .int .i64 0, .int .u16 0, .int .u32 0, .int .u32 0, .slice none 0 0, .bool false, .int .u16 0, .slice none 0 0, .slice none 0 0, .slice none 0 0] 71)).cell? ⟨w.heap.size, 1, none⟩ = some (.int .u8 0) := by rw [cell_of_row (w2.alloc (.cells #[.bool false, .int .i64 0, .int .u16 0, .int .u32 0, .int .u32 0, .slice none 0 0, .bool false, .int .u16 0, .slice none 0 0, .slice none 0 0, .slice none 0 0] 71)) _ 1 _ _ _ hx3]; rfl
    have y2 : (w2.alloc (.cells #[.bool false, .int .i64 0, .int .u16 0, .int .u32 0, .int .u32 0, .slice none 0 0, .bool false, .int .u16 0, .slice none 0 0, .slice none 0 0, .slice none 0 0] 71)).cell? ⟨w.heap.size, 2, none⟩ = some (.int .u8 0) := by rw [cell_of_row (w2.alloc (.cells #[.bool false, .int .i64 0, .int .u16 0, .int .u32 0, .int .u32 0, .slice none 0 0, .bool false, .int .u16 0, .slice none 0 0, .slice none 0 0, .slice none 0 0] 71)) _ 2 _ _ _ hx3]; rfl
    have y3 : (w2.alloc (.cells #[.bool false, .int .i64 0, .int .u16 0, .int .u32 0, .int .u32 0, .slice none 0 0, .bool false, .int .u16 0, .slice none 0 0, .slice none 0 0, .slice none 0 0] 71)).cell? ⟨w.heap.size, 3, none⟩ = some (.int .u8 0) := by rw [cell_of_row (w2.alloc (.cells #[.bool false, .int .i64 0, .int .u16 0, .int .u32 0, .int .u32 0, .slice none 0 0, .bool false, .int .u16 0, .slice none 0 0, .slice none 0 0, .slice none 0 0] 71)) _ 3 _ _ _ hx3]; rfl
    have y4 : (w2.alloc (.cells #[.bool false, .int .i64 0, .int .u16 0, .int .u32 0, .int .u32 0, .slice none 0 0, .bool false, .int .u16 0, .slice none 0 0, .slice none 0 0, .slice none 0 0] 71)).cell? ⟨w.heap.size, 4, none⟩ = some (.int .u8 0) := by rw [cell_of_row (w2.alloc (.cells #[.bool false, .int .i64 0, .int .u16 0, .int .u32 0, .int .u32 0, .slice none 0 0, .bool false, .int .u16 0, .slice none 0 0, .slice none 0 0, .slice none 0 0] 71)) _ 4 _ _ _ hx3]; rfl
    have y5 : (w2.alloc (.cells #[.bool false, .int .i64 0, .int .u16 0, .int .u32 0, .int .u32 0, .slice none 0 0, .bool false, .int .u16 0, .slice none 0 0, .slice none 0 0, .slice none 0 0] 71)).cell? ⟨w.heap.size, 5, none⟩ = some (.int .u8 0) := by rw [cell_of_row (w2.alloc (.cells #[.bool false, .int .i64 0, .int .u16 0, .int .u32 0, .int .u32 0, .slice none 0 0, .bool false, .int .u16 0, .slice none 0 0, .slice none 0 0, .slice none 0 0] 71)) _ 5 _ _ _ hx3]; rfl
    have y6 : (w2.alloc (.cells #[.bool false, .int .i64 0, .int .u16 0, .int .u32 0, .int .u32 0, .slice none 0 0, .bool false, .int .u16 0, .slice none 0 0, .slice none 0 0, .slice none 0 0] 71)).cell? ⟨w.heap.size, 6, none⟩ = some (.int .u8 0) := by rw [cell_of_row (w2.alloc (.cells #[.bool false, .int .i64 0, .int .u16 0, .int .u32 0, .int .u32 0, .slice none 0 0, .bool false, .int .u16 0, .slice none 0 0, .slice none 0 0, .slice none 0 0] 71)) _ 6 _ _ _ hx3]; rfl
    have y7 : (w2.alloc (.cells #[.bool false, .int .i64 0, .int .u16 0, .int .u32 0, .int .u32 0, .slice none 0 0, .bool false, .int .u16 0, .slice none 0 0, .slice none 0 0, .slice none 0 0] 71)).cell? ⟨w.heap.size, 7, none⟩ = some (.int .u8 0) := by rw [cell_of_row (w2.alloc (.cells #[.bool false, .int .i64 0, .int .u16 0, .int .u32 0, .int .u32 0, .slice none 0 0, .bool false, .int .u16 0, .slice none 0 0, .slice none 0 0, .slice none 0 0] 71)) _ 7 _ _ _ hx3]; rfl
    have y8 : (w2.alloc (.cells #[.bool false, .int .i64 0, .int .u16 0, .int .u32 0, .int .u32 0, .slice none 0 0, .bool false, .int .u16 0, .slice none 0 0, .slice none 0 0, .slice none 0 0] 71)).cell? ⟨w.heap.size, 8, none⟩ = some (.slice none 0 0) := by rw [cell_of_row (w2.alloc (.cells #[.bool false, .int .i64 0, .int .u16 0, .int .u32 0, .int .u32 0, .slice none 0 0, .bool false, .int .u16 0, .slice none 0 0, .slice none 0 0, .slice none 0 0] 71)) _ 8 _ _ _ hx3]; rfl
    have fB : ∀ o, (w2.alloc (.cells #[.bool false, .int .i64 0, .int .u16 0, .int .u32 0, .int .u32 0, .slice none 0 0, .bool false, .int .u16 0, .slice none 0 0, .slice none 0 0, .slice none 0 0] 71)).frozen? ⟨w.heap.size, o, none⟩ = false := fun o => frozen_of_row (w2.alloc (.cells #[.bool false, .int .i64 0, .int .u16 0, .int .u32 0, .int .u32 0, .slice none 0 0, .bool false, .int .u16 0, .slice none 0 0, .slice none 0 0, .slice none 0 0] 71)) _ o _ _ hx3
    have HX3 := Lib.hid hx3; clear hx3
    go_wp2_with fail
    obtain ⟨w4, hw4⟩ : ∃ w4, putL (w2.alloc (.cells #[.bool false, .int .i64 0, .int .u16 0, .int .u32 0, .int .u32 0, .slice none 0 0, .bool false, .int .u16 0, .slice none 0 0, .slice none 0 0, .slice none 0 0] 71)) w.heap.size 0 [.int .u8 0, .int .u8 0, .int .u8 0, .int .u8 0, .int .u8 0, .int .u8 0, .int .u8 0, .int .u8 0, .slice none 0 0] = w4 := ⟨_, rfl⟩
    have P4 : Put (w2.alloc (.cells #[.bool false, .int .i64 0, .int .u16 0, .int .u32 0, .int .u32 0, .slice none 0 0, .bool false, .int .u16 0, .slice none 0 0, .slice none 0 0, .slice none 0 0] 71)) w4 w.heap.size #[.int .u8 0, .int .u8 0, .int .u8 0, .int .u8 0, .int .u8 0, .int .u8 0, .int .u8 0, .int .u8 0, .slice none 0 0] 57 := by rw [← hw4]; exact putL_is (us := [.int .u8 0, .int .u8 0, .int .u8 0, .int .u8 0, .int .u8 0, .int .u8 0, .int .u8 0, .int .u8 0, .slice none 0 0]) HX3.out rfl
    simp only [putL, Nat.zero_add, Nat.reduceAdd] at hw4
    rw [hw4]
    have q4' := P4.row
    have HF : Hid (OfOut f l w (.returned (.tuple #[.agg #[.int .u8 0, .int .u8 0, .int .u8 0, .int .u8 0, .int .u8 0, .int .u8 0, .int .u8 0, .int .u8 0, .slice none 0 0], .int .i64 f])) w4) := 
      Lib.hid ⟨fun _ => ⟨rfl, HL3.out.grown P4.grown HL3.out.size (fun k e => by cases e; omega)⟩, fun h => absurd h hf⟩
    clear hw4 P4 fB y0 y1 y2 y3 y4 y5 y6 y7 y8
    have f0 : w4.cell? ⟨w.heap.size, 0, none⟩ = some (.int .u8 0) := by rw [cell_of_row w4 _ 0 _ _ _ q4']; rfl
    have f1 : w4.cell? ⟨w.heap.size, 1, none⟩ = some (.int .u8 0) := by rw [cell_of_row w4 _ 1 _ _ _ q4']; rfl
    have f2 : w4.cell? ⟨w.heap.size, 2, none⟩ = some (.int .u8 0) := by rw [cell_of_row w4 _ 2 _ _ _ q4']; rfl
    have f3 : w4.cell? ⟨w.heap.size, 3, none⟩ = some (.int .u8 0) := by rw [cell_of_row w4 _ 3 _ _ _ q4']; rfl
    have f4 : w4.cell? ⟨w.heap.size, 4, none⟩ = some (.int .u8 0) := by rw [cell_of_row w4 _ 4 _ _ _ q4']; rfl
    have f5 : w4.cell? ⟨w.heap.size, 5, none⟩ = some (.int .u8 0) := by rw [cell_of_row w4 _ 5 _ _ _ q4']; rfl
    have f6 : w4.cell? ⟨w.heap.size, 6, none⟩ = some (.int .u8 0) := by rw [cell_of_row w4 _ 6 _ _ _ q4']; rfl
    have f7 : w4.cell? ⟨w.heap.size, 7, none⟩ = some (.int .u8 0) := by rw [cell_of_row w4 _ 7 _ _ _ q4']; rfl
    have f8 : w4.cell? ⟨w.heap.size, 8, none⟩ = some (.slice none 0 0) := by rw [cell_of_row w4 _ 8 _ _ _ q4']; rfl
    clear q4'
    exact bodyPost_ret (v := .tuple #[.agg #[.int .u8 0, .int .u8 0, .int .u8 0, .int .u8 0, .int .u8 0, .int .u8 0, .int .u8 0, .int .u8 0, .slice none 0 0], .int .i64 f]) (by simp [results, Try.results27, go_sem, f0, f1, f2, f3, f4, f5, f6, f7, f8]) rfl HF.out
end Go.Proofs.Ytedhmoihlfjbdaa

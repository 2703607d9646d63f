
/-
  What one step reads: confluxlaw03.one.
-/
import Derived.Test.YtknpdcnhdmbbiaaWirePartgot
import Derived.Test.YtknpdcnhdmbbiaaWireWrite
namespace Go.Proofs.Ytknpdcnhdmbbiaa
open Go.RowKit Go.Shelf
set_option linter.unusedVariables false
/-- What one step that ends well gives: k bytes are read, the number x, the bytes bs. -/
def OnePost (R U : Nat) (a : Option Addr) (n c : Nat) (l : List Int) (k : Nat) (x : Int) (bs : List Int) (w : World) (e : Ending) (w' : World) : Prop :=
  ∃ a' c', e = .returned (.agg #[.int .u64 x, .slice a' bs.length c']) ∧ Own w' w.heap.size a' bs.length c' bs ∧ RdAt w' R U (restA a c k) (n - k) (c - k) (l.drop k) ∧ w.grownBy w' (some R)
/-- What one step that fails gives. -/
def OneFail (U : Nat) (f : Int) (w : World) (e : Ending) (w' : World) : Prop :=
  e = .panicked [{ v := failV U, recovered := false }] ∧ w'.heap[U]? = some (.cells #[.bool false, .int .i64 f] 102 (0, 0)) ∧ w.grownBy w' (some U)
def oneW (w : World) (k m : Int) : World := (w.alloc (.cells #[.int .i64 k, .int .i64 m] 40)).alloc (.cells #[.int .u64 0, .slice none 0 0] 42)
theorem oneW_below (w : World) (k m : Int) : Below w.heap.size w (oneW w k m) := ((Below.refl _ w).alloc (Nat.le_refl _) _).alloc (by simp) _
theorem oneW_size (w : World) (k m : Int) : (oneW w k m).heap.size = w.heap.size + 2 := by simp [oneW]
/-- The result's own cells, behind what reads. -/
theorem oneW_box (w : World) (k m : Int) (R : Nat) (hR : R < w.heap.size) {w' : World} (hg : (oneW w k m).grownBy w' (some R)) : w'.heap[w.heap.size + 1]? = some (.cells #[.int .u64 0, .slice none 0 0] 42 (0, 0)) := by
  rw [hg.block (w.heap.size + 1) (by rw [oneW_size]; omega) (by simp; omega)]
  exact lit_new (by simp)
/-- A Reader that has read k bytes, in a world that is else as it was, new blocks aside. -/
theorem RdAt.moved {w w' : World} {R U : Nat} {a : Option Addr} {n c : Nat} {l : List Int} (h : RdAt w R U a n c l) (k : Nat) (hk : k ≤ n) (hg : w.grownBy w' (some R))
    (hrd : w'.heap[R]? = some (.cells #[.slice (restA a c k) (n - k) (c - k), .pointer (some ⟨U, 0, Option.none⟩)] 127 (0, 0))) : RdAt w' R U (restA a c k) (n - k) (c - k) (l.drop k) :=
  ⟨hrd, (hg.block U h.ltU (by simpa using h.ne.symm)).trans h.run, h.ne,
    restA_bat (h.row.same hg.size fun x h0 hx hl => hg.block x.block hl (fun e => (h.far h0 x hx).1 (by simpa using e))) h.cap k hk, by have := h.cap; omega, restA_far h.cap hk h.far⟩
/-- The world in which one ends, and what it says. -/
theorem one_post (R U : Nat) (a : Option Addr) (n c : Nat) (l : List Int) (k : Nat) (x : Int) (bs : List Int) (a' : Option Addr) (c' : Nat) (k0 m : Int) (w w1 w2 : World) (h : RdAt w R U a n c l) (hk : k ≤ n)
    (hO : Own w1 (w.heap.size + 2) a' bs.length c' bs) (hR : RdAt w1 R U (restA a c k) (n - k) (c - k) (l.drop k)) (hg : (oneW w k0 m).grownBy w1 (some R)) (hg2 : w1.grownBy w2 (some (w.heap.size + 1))) :
    OnePost R U a n c l k x bs w (.returned (.agg #[.int .u64 x, .slice a' bs.length c'])) w2 := by
  have hR0 := h.ltR
  have hB := oneW_below w k0 m
  have hz := oneW_size w k0 m
  have hgg : w.grownBy w2 (some R) := by
    refine ⟨hg2.os.trans (hg.os.trans hB.os), hg2.tape.trans (hg.tape.trans hB.tape), hg2.output.trans (hg.output.trans hB.output), Nat.le_trans hB.size (Nat.le_trans hg.size hg2.size), fun j hj hne => ?_⟩
    have := hg.size
    exact (hg2.block j (by omega) (by simp; omega)).trans ((hg.block j (by omega) hne).trans (hB.block j hj))
  refine ⟨a', c', rfl, ?_, h.moved k hk hgg ((hg2.block R (by have := hg.size; omega) (by simp; omega)).trans hR.rd), hgg⟩
  exact Own.mono (base := w.heap.size + 2) ⟨(hO.row.kept hg2 (.inr (by
    cases a' with
    | none => simp [Value.ownBlock]
    | some y => have := (hO.blk y rfl).1; simp [Value.ownBlock]; omega))), hO.ok⟩ (by omega)
/-- The result's cells, written. -/
def boxW (w : World) (B : Nat) (x : Int) (v : Value) : World := (w.setCell ⟨B, 0, none⟩ (.int .u64 x)).setCell ⟨B, 1, none⟩ v
theorem boxW_row (w : World) (B : Nat) (x : Int) (v : Value) (h : w.heap[B]? = some (.cells #[.int .u64 0, .slice none 0 0] 42 (0, 0))) : (boxW w B x v).heap[B]? = some (.cells #[.int .u64 x, v] 42 (0, 0)) :=
  heap_setCell_same _ B 1 _ _ _ (heap_setCell_same w B 0 _ _ _ h)
theorem boxW_grown (w : World) (B : Nat) (x : Int) (v : Value) : w.grownBy (boxW w B x v) (some B) :=
  ⟨rfl, rfl, rfl, by simp [boxW], fun j _ hj => (Below.heap_setCell _ _ _ j (fun e => hj (by rw [e]))).trans (Below.heap_setCell w _ _ j (fun e => hj (by rw [e])))⟩
set_option maxHeartbeats 2000000 in
theorem one_end (Q : Ending → World → Prop) (act : Act) (w : World) (B : Nat) (x : Int) (v : Value) (h : w.heap[B]? = some (.cells #[.int .u64 0, .slice none 0 0] 42 (0, 0))) (hd : act.defers = [])
    (ht : act.tmps[4]? = some (.pointer (some ⟨B, 0, none⟩))) (hQ : Q (.returned (.agg #[.int .u64 x, v])) (boxW w B x v)) : bodyPost Try.prog Try.f53 Q .ret act (boxW w B x v) := by
  have e0 : (boxW w B x v).cell? ⟨B, 0, none⟩ = some (.int .u64 x) := by rw [cell_of_row _ B 0 _ _ _ (boxW_row w B x v h)]; rfl
  have e1 : (boxW w B x v).cell? ⟨B, 1, none⟩ = some v := by rw [cell_of_row _ B 1 _ _ _ (boxW_row w B x v h)]; rfl
  generalize boxW w B x v = W at *
  exact bodyPost_ret (v := .agg #[.int .u64 x, v]) (by simp [results, Try.results53, go_sem, ht, e0, e1]) hd hQ
theorem one_failed (R U : Nat) (a : Option Addr) (n c : Nat) (l : List Int) (f k0 m : Int) (w w1 : World) (h : RdAt w R U a n c l) (h1 : w1.heap[U]? = some (.cells #[.bool false, .int .i64 f] 102 (0, 0))) (h2 : (oneW w k0 m).grownBy w1 (some U)) :
    OneFail U f w (.panicked [{ v := failV U, recovered := false }]) w1 := by
  have hB := oneW_below w k0 m
  have hz := oneW_size w k0 m
  exact ⟨rfl, h1, h2.os.trans hB.os, h2.tape.trans hB.tape, h2.output.trans hB.output, Nat.le_trans hB.size h2.size, fun j hj hne => (h2.block j (by omega) hne).trans (hB.block j hj)⟩
set_option maxHeartbeats 2000000 in
theorem one_byte (R U : Nat) (a : Option Addr) (n c : Nat) (l : List Int) (m : Int) (w : World) (h : RdAt w R U a n c l) (hk : 1 ≤ n) :
    Calls Try.prog 53 #[.pointer (some ⟨R, 0, none⟩), .agg #[.int .i64 1, .int .i64 m]] w (OnePost R U a n c l 1 (Num (l.take 1)) [] w) := by
  have hb := num_lt h.row.ok 1 (by have := h.row.len; omega) 256 (by decide)
  have HN := Lib.hid (byte_ok R U a n c l (oneW w 1 m) (h.below (oneW_below w 1 m)) hk); have HH := Lib.hid h; clear h
  generalize Num (l.take 1) = x at HN hb ⊢
  go_enter Try.func53, Try.ntmps53
  go_wp2_with fail
  refine (HN.out).mono ?_
  rintro e w' ⟨rfl, h1, h2⟩
  have hx := oneW_box w 1 m R HH.out.ltR h2
  have c0 : w'.cell? ⟨w.heap.size + 1, 0, none⟩ = some (.int .u64 0) := by rw [cell_of_row w' _ 0 _ _ _ hx]; rfl
  have c1 : w'.cell? ⟨w.heap.size + 1, 1, none⟩ = some (.slice none 0 0) := by rw [cell_of_row w' _ 1 _ _ _ hx]; rfl
  have f0 := frozen_of_row w' (w.heap.size + 1) 0 _ _ hx
  have f1 := frozen_of_row w' (w.heap.size + 1) 1 _ _ hx
  have H1 := Lib.hid h1; have H2 := Lib.hid h2; have HX := Lib.hid hx; clear h1 h2 hx
  go_wp2
  exact one_end _ _ w' _ x (.slice none 0 0) HX.out rfl rfl (one_post R U a n c l 1 x [] none 0 1 m w w' _ HH.out hk ⟨World.ownsRow_nil _ _ _ _, Str.ok_nil⟩ H1.out H2.out (boxW_grown _ _ _ _))
set_option maxHeartbeats 2000000 in
theorem one_byte_fail (R U : Nat) (a : Option Addr) (n c : Nat) (l : List Int) (m : Int) (w : World) (h : RdAt w R U a n c l) (hk : (n : Int) < 1) :
    Calls Try.prog 53 #[.pointer (some ⟨R, 0, none⟩), .agg #[.int .i64 1, .int .i64 m]] w (OneFail U 20 w) := by
  have HN := Lib.hid (byte_fail R U a n c l (oneW w 1 m) (h.below (oneW_below w 1 m)) hk); have HH := Lib.hid h; clear h
  go_enter Try.func53, Try.ntmps53
  go_wp2_with fail
  refine (HN.out).mono ?_
  rintro e w' ⟨rfl, h1, h2, h3⟩
  exact ⟨rfl, one_failed R U a n c l 20 1 m w w' HH.out h1 h2⟩
set_option maxHeartbeats 2000000 in
theorem one_word (R U : Nat) (a : Option Addr) (n c : Nat) (l : List Int) (m : Int) (w : World) (h : RdAt w R U a n c l) (hk : 2 ≤ n) :
    Calls Try.prog 53 #[.pointer (some ⟨R, 0, none⟩), .agg #[.int .i64 2, .int .i64 m]] w (OnePost R U a n c l 2 (Num (l.take 2)) [] w) := by
  have hb := num_lt h.row.ok 2 (by have := h.row.len; omega) 65536 (by decide)
  have HN := Lib.hid (word_ok R U a n c l (oneW w 2 m) (h.below (oneW_below w 2 m)) hk); have HH := Lib.hid h; clear h
  generalize Num (l.take 2) = x at HN hb ⊢
  go_enter Try.func53, Try.ntmps53
  go_wp2_with fail
  refine (HN.out).mono ?_
  rintro e w' ⟨rfl, h1, h2⟩
  have hx := oneW_box w 2 m R HH.out.ltR h2
  have c0 : w'.cell? ⟨w.heap.size + 1, 0, none⟩ = some (.int .u64 0) := by rw [cell_of_row w' _ 0 _ _ _ hx]; rfl
  have c1 : w'.cell? ⟨w.heap.size + 1, 1, none⟩ = some (.slice none 0 0) := by rw [cell_of_row w' _ 1 _ _ _ hx]; rfl
  have f0 := frozen_of_row w' (w.heap.size + 1) 0 _ _ hx
  have f1 := frozen_of_row w' (w.heap.size + 1) 1 _ _ hx
  have H1 := Lib.hid h1; have H2 := Lib.hid h2; have HX := Lib.hid hx; clear h1 h2 hx
  go_wp2
  exact one_end _ _ w' _ x (.slice none 0 0) HX.out rfl rfl (one_post R U a n c l 2 x [] none 0 2 m w w' _ HH.out hk ⟨World.ownsRow_nil _ _ _ _, Str.ok_nil⟩ H1.out H2.out (boxW_grown _ _ _ _))
set_option maxHeartbeats 2000000 in
theorem one_word_fail (R U : Nat) (a : Option Addr) (n c : Nat) (l : List Int) (m : Int) (w : World) (h : RdAt w R U a n c l) (hk : (n : Int) < 2) :
    Calls Try.prog 53 #[.pointer (some ⟨R, 0, none⟩), .agg #[.int .i64 2, .int .i64 m]] w (OneFail U 20 w) := by
  have HN := Lib.hid (word_fail R U a n c l (oneW w 2 m) (h.below (oneW_below w 2 m)) hk); have HH := Lib.hid h; clear h
  go_enter Try.func53, Try.ntmps53
  go_wp2_with fail
  refine (HN.out).mono ?_
  rintro e w' ⟨rfl, h1, h2, h3⟩
  exact ⟨rfl, one_failed R U a n c l 20 2 m w w' HH.out h1 h2⟩
set_option maxHeartbeats 2000000 in
theorem one_long (R U : Nat) (a : Option Addr) (n c : Nat) (l : List Int) (m : Int) (w : World) (h : RdAt w R U a n c l) (hk : 4 ≤ n) :
    Calls Try.prog 53 #[.pointer (some ⟨R, 0, none⟩), .agg #[.int .i64 4, .int .i64 m]] w (OnePost R U a n c l 4 (Num (l.take 4)) [] w) := by
  have hb := num_lt h.row.ok 4 (by have := h.row.len; omega) 4294967296 (by decide)
  have HN := Lib.hid (long_ok R U a n c l (oneW w 4 m) (h.below (oneW_below w 4 m)) hk); have HH := Lib.hid h; clear h
  generalize Num (l.take 4) = x at HN hb ⊢
  go_enter Try.func53, Try.ntmps53
  go_wp2_with fail
  refine (HN.out).mono ?_
  rintro e w' ⟨rfl, h1, h2⟩
  have hx := oneW_box w 4 m R HH.out.ltR h2
  have c0 : w'.cell? ⟨w.heap.size + 1, 0, none⟩ = some (.int .u64 0) := by rw [cell_of_row w' _ 0 _ _ _ hx]; rfl
  have c1 : w'.cell? ⟨w.heap.size + 1, 1, none⟩ = some (.slice none 0 0) := by rw [cell_of_row w' _ 1 _ _ _ hx]; rfl
  have f0 := frozen_of_row w' (w.heap.size + 1) 0 _ _ hx
  have f1 := frozen_of_row w' (w.heap.size + 1) 1 _ _ hx
  have H1 := Lib.hid h1; have H2 := Lib.hid h2; have HX := Lib.hid hx; clear h1 h2 hx
  go_wp2
  exact one_end _ _ w' _ x (.slice none 0 0) HX.out rfl rfl (one_post R U a n c l 4 x [] none 0 4 m w w' _ HH.out hk ⟨World.ownsRow_nil _ _ _ _, Str.ok_nil⟩ H1.out H2.out (boxW_grown _ _ _ _))
set_option maxHeartbeats 2000000 in
theorem one_long_fail (R U : Nat) (a : Option Addr) (n c : Nat) (l : List Int) (m : Int) (w : World) (h : RdAt w R U a n c l) (hk : (n : Int) < 4) :
    Calls Try.prog 53 #[.pointer (some ⟨R, 0, none⟩), .agg #[.int .i64 4, .int .i64 m]] w (OneFail U 20 w) := by
  have HN := Lib.hid (long_fail R U a n c l (oneW w 4 m) (h.below (oneW_below w 4 m)) hk); have HH := Lib.hid h; clear h
  go_enter Try.func53, Try.ntmps53
  go_wp2_with fail
  refine (HN.out).mono ?_
  rintro e w' ⟨rfl, h1, h2, h3⟩
  exact ⟨rfl, one_failed R U a n c l 20 4 m w w' HH.out h1 h2⟩
set_option maxHeartbeats 2000000 in
theorem one_wide (R U : Nat) (a : Option Addr) (n c : Nat) (l : List Int) (m : Int) (w : World) (h : RdAt w R U a n c l) (hk : 8 ≤ n) :
    Calls Try.prog 53 #[.pointer (some ⟨R, 0, none⟩), .agg #[.int .i64 8, .int .i64 m]] w (OnePost R U a n c l 8 (Num (l.take 8)) [] w) := by
  have hb := num_lt h.row.ok 8 (by have := h.row.len; omega) 18446744073709551616 (by decide)
  have HN := Lib.hid (wide_ok R U a n c l (oneW w 8 m) (h.below (oneW_below w 8 m)) hk); have HH := Lib.hid h; clear h
  generalize Num (l.take 8) = x at HN hb ⊢
  go_enter Try.func53, Try.ntmps53
  go_wp2_with fail
  refine (HN.out).mono ?_
  rintro e w' ⟨rfl, h1, h2⟩
  have hx := oneW_box w 8 m R HH.out.ltR h2
  have c0 : w'.cell? ⟨w.heap.size + 1, 0, none⟩ = some (.int .u64 0) := by rw [cell_of_row w' _ 0 _ _ _ hx]; rfl
  have c1 : w'.cell? ⟨w.heap.size + 1, 1, none⟩ = some (.slice none 0 0) := by rw [cell_of_row w' _ 1 _ _ _ hx]; rfl
  have f0 := frozen_of_row w' (w.heap.size + 1) 0 _ _ hx
  have f1 := frozen_of_row w' (w.heap.size + 1) 1 _ _ hx
  have H1 := Lib.hid h1; have H2 := Lib.hid h2; have HX := Lib.hid hx; clear h1 h2 hx
  go_wp2
  exact one_end _ _ w' _ x (.slice none 0 0) HX.out rfl rfl (one_post R U a n c l 8 x [] none 0 8 m w w' _ HH.out hk ⟨World.ownsRow_nil _ _ _ _, Str.ok_nil⟩ H1.out H2.out (boxW_grown _ _ _ _))
set_option maxHeartbeats 2000000 in
theorem one_wide_fail (R U : Nat) (a : Option Addr) (n c : Nat) (l : List Int) (m : Int) (w : World) (h : RdAt w R U a n c l) (hk : (n : Int) < 8) :
    Calls Try.prog 53 #[.pointer (some ⟨R, 0, none⟩), .agg #[.int .i64 8, .int .i64 m]] w (OneFail U 20 w) := by
  have HN := Lib.hid (wide_fail R U a n c l (oneW w 8 m) (h.below (oneW_below w 8 m)) hk); have HH := Lib.hid h; clear h
  go_enter Try.func53, Try.ntmps53
  go_wp2_with fail
  refine (HN.out).mono ?_
  rintro e w' ⟨rfl, h1, h2, h3⟩
  exact ⟨rfl, one_failed R U a n c l 20 8 m w w' HH.out h1 h2⟩
set_option maxHeartbeats 2000000 in
theorem one_take (R U : Nat) (a : Option Addr) (n c : Nat) (l : List Int) (m : Int) (k : Nat) (w : World) (h : RdAt w R U a n c l) (hk : k ≤ n) (hlim : n ≤ 140737488355328) (hm : max m 0 = (k : Int)) :
    Calls Try.prog 53 #[.pointer (some ⟨R, 0, none⟩), .agg #[.int .i64 0, .int .i64 m]] w (OnePost R U a n c l k 0 (l.take k) w) := by
  have hl : (l.take k).length = k := by have := h.row.len; simp; omega
  have HN := Lib.hid (take_ok R U a n c l m k (oneW w 0 m) (h.below (oneW_below w 0 m)) hk hlim hm); have HH := Lib.hid h; have HL := Lib.hid hl; clear h hm hl
  go_enter Try.func53, Try.ntmps53
  go_wp2_with fail
  refine (HN.out).mono ?_
  rintro e w' ⟨a', c', rfl, hO, h1, h2⟩
  have HO := Lib.hid hO; clear hO
  have hx := oneW_box w (0) m R HH.out.ltR h2
  have c0 : w'.cell? ⟨w.heap.size + 1, 0, none⟩ = some (.int .u64 0) := by rw [cell_of_row w' _ 0 _ _ _ hx]; rfl
  have c1 : w'.cell? ⟨w.heap.size + 1, 1, none⟩ = some (.slice none 0 0) := by rw [cell_of_row w' _ 1 _ _ _ hx]; rfl
  have f0 := frozen_of_row w' (w.heap.size + 1) 0 _ _ hx
  have f1 := frozen_of_row w' (w.heap.size + 1) 1 _ _ hx
  have H1 := Lib.hid h1; have H2 := Lib.hid h2; have HX := Lib.hid hx; clear h1 h2 hx
  go_wp2
  refine one_end _ _ w' _ 0 (.slice a' k c') HX.out rfl rfl ?_
  have hO := HO.out; rw [oneW_size] at hO
  have := one_post R U a n c l k 0 (l.take k) a' c' 0 m w w' (boxW w' (w.heap.size + 1) 0 (.slice a' k c')) HH.out hk (by rw [HL.out]; exact hO) H1.out H2.out (boxW_grown _ _ _ _)
  rw [HL.out] at this
  exact this
set_option maxHeartbeats 2000000 in
theorem one_take_fail (R U : Nat) (a : Option Addr) (n c : Nat) (l : List Int) (m : Int) (w : World) (h : RdAt w R U a n c l) (hk : (n : Int) < m) :
    Calls Try.prog 53 #[.pointer (some ⟨R, 0, none⟩), .agg #[.int .i64 0, .int .i64 m]] w (OneFail U 20 w) := by
  have HN := Lib.hid (take_fail R U a n c l m (oneW w 0 m) (h.below (oneW_below w 0 m)) hk); have HH := Lib.hid h; clear h
  go_enter Try.func53, Try.ntmps53
  go_wp2_with fail
  refine (HN.out).mono ?_
  rintro e w' ⟨rfl, h1, h2, h3⟩
  exact ⟨rfl, one_failed R U a n c l 20 0 m w w' HH.out h1 h2⟩
set_option maxHeartbeats 2000000 in
theorem one_rest (R U : Nat) (a : Option Addr) (n c : Nat) (l : List Int) (m : Int) (w : World) (h : RdAt w R U a n c l) (hlim : n ≤ 140737488355328) :
    Calls Try.prog 53 #[.pointer (some ⟨R, 0, none⟩), .agg #[.int .i64 (-1), .int .i64 m]] w (OnePost R U a n c l n 0 (l.take n) w) := by
  have hl : (l.take n).length = n := by have := h.row.len; simp; omega
  have HN := Lib.hid (rest_ok R U a n c l (oneW w (-1) m) (h.below (oneW_below w (-1) m)) hlim); have HH := Lib.hid h; have HL := Lib.hid hl; clear h hl
  go_enter Try.func53, Try.ntmps53
  go_wp2_with fail
  refine (HN.out).mono ?_
  rintro e w' ⟨a', c', rfl, hO, h1, h2⟩
  have HO := Lib.hid hO; clear hO
  have hx := oneW_box w (-1) m R HH.out.ltR h2
  have c0 : w'.cell? ⟨w.heap.size + 1, 0, none⟩ = some (.int .u64 0) := by rw [cell_of_row w' _ 0 _ _ _ hx]; rfl
  have c1 : w'.cell? ⟨w.heap.size + 1, 1, none⟩ = some (.slice none 0 0) := by rw [cell_of_row w' _ 1 _ _ _ hx]; rfl
  have f0 := frozen_of_row w' (w.heap.size + 1) 0 _ _ hx
  have f1 := frozen_of_row w' (w.heap.size + 1) 1 _ _ hx
  have H1 := Lib.hid h1; have H2 := Lib.hid h2; have HX := Lib.hid hx; clear h1 h2 hx
  go_wp2
  refine one_end _ _ w' _ 0 (.slice a' n c') HX.out rfl rfl ?_
  have hO := HO.out; rw [oneW_size] at hO
  have := one_post R U a n c l n 0 (l.take n) a' c' (-1) m w w' (boxW w' (w.heap.size + 1) 0 (.slice a' n c')) HH.out (Nat.le_refl _) (by rw [HL.out]; exact hO) H1.out H2.out (boxW_grown _ _ _ _)
  rw [HL.out] at this
  exact this
set_option maxHeartbeats 2000000 in
theorem one_end_step (R U : Nat) (a : Option Addr) (n c : Nat) (l : List Int) (m : Int) (w : World) (h : RdAt w R U a n c l) :
    Calls Try.prog 53 #[.pointer (some ⟨R, 0, none⟩), .agg #[.int .i64 (-2), .int .i64 m]] w (OneFail U (failOf m) w) := by
  have HN := Lib.hid (fail_any R U a n c l m (oneW w (-2) m) (h.below (oneW_below w (-2) m))); have HH := Lib.hid h; clear h
  generalize failOf m = f at HN ⊢
  go_enter Try.func53, Try.ntmps53
  go_wp2_with fail
  refine (HN.out).mono ?_
  rintro e w' ⟨rfl, h1, h2, h3⟩
  exact ⟨rfl, one_failed R U a n c l f (-2) m w w' HH.out h1 h2⟩
set_option maxHeartbeats 2000000 in
theorem one_left (R U : Nat) (a : Option Addr) (n c : Nat) (l : List Int) (k m : Int) (w : World) (h : RdAt w R U a n c l) (k1 : (k == 1) = false) (k2 : (k == 2) = false) (k4 : (k == 4) = false) (k8 : (k == 8) = false) (k0 : (k == 0) = false) (km1 : (k == -1) = false) (km2 : (k == -2) = false) :
    Calls Try.prog 53 #[.pointer (some ⟨R, 0, none⟩), .agg #[.int .i64 k, .int .i64 m]] w (OnePost R U a n c l 0 n [] w) := by
  have hl := h.row.lim
  have hR := h.below (oneW_below w k m)
  have HN := Lib.hid (left_any R U a n c l (oneW w k m) hR); have HH := Lib.hid h; have HR := Lib.hid hR; clear h hR
  go_enter Try.func53, Try.ntmps53
  go_wp2_with fail
  refine (HN.out).mono ?_
  rintro e w' ⟨rfl, hw⟩
  have h2 : (oneW w k m).grownBy w' (some R) := by cases hw; exact World.grownBy.refl _ _
  have h1 : RdAt w' R U a n c l := by cases hw; exact HR.out
  clear hw HR
  have hx := oneW_box w (k) m R HH.out.ltR h2
  have c0 : w'.cell? ⟨w.heap.size + 1, 0, none⟩ = some (.int .u64 0) := by rw [cell_of_row w' _ 0 _ _ _ hx]; rfl
  have c1 : w'.cell? ⟨w.heap.size + 1, 1, none⟩ = some (.slice none 0 0) := by rw [cell_of_row w' _ 1 _ _ _ hx]; rfl
  have f0 := frozen_of_row w' (w.heap.size + 1) 0 _ _ hx
  have f1 := frozen_of_row w' (w.heap.size + 1) 1 _ _ hx
  have H1 := Lib.hid h1; have H2 := Lib.hid h2; have HX := Lib.hid hx; clear h1 h2 hx
  go_wp2
  have e0 : restA a c 0 = a := by
    unfold restA; cases a <;> simp [Addr.add]
  exact one_end _ _ w' _ n (.slice none 0 0) HX.out rfl rfl (one_post R U a n c l 0 n [] none 0 k m w w' _ HH.out (Nat.zero_le _) ⟨World.ownsRow_nil _ _ _ _, Str.ok_nil⟩ (by simpa [e0] using H1.out) H2.out (boxW_grown _ _ _ _))
/-- One step, in numbers: its error (0: none), how many bytes it reads, its number, its bytes. -/
def stepNo (k m : Int) (n : Nat) : Int :=
  if k = 1 ∨ k = 2 ∨ k = 4 ∨ k = 8 then (if (n : Int) < k then 20 else 0) else if k = 0 then (if (n : Int) < m then 20 else 0) else if k = -2 then failOf m else 0
def stepK (k m : Int) (n : Nat) : Nat :=
  if k = 1 ∨ k = 2 ∨ k = 4 ∨ k = 8 then k.toNat else if k = 0 then m.toNat else if k = -1 then n else 0
def stepX (k : Int) (l : List Int) : Int :=
  if k = 1 ∨ k = 2 ∨ k = 4 ∨ k = 8 then Num (l.take k.toNat) else if k = 0 ∨ k = -1 then 0 else l.length
def stepB (k m : Int) (l : List Int) : List Int :=
  if k = 0 ∨ k = -1 then l.take (stepK k m l.length) else []
theorem one_ok (R U : Nat) (a : Option Addr) (n c : Nat) (l : List Int) (k m : Int) (w : World) (h : RdAt w R U a n c l) (hlim : n ≤ 140737488355328) (h0 : stepNo k m n = 0) :
    Calls Try.prog 53 #[.pointer (some ⟨R, 0, none⟩), .agg #[.int .i64 k, .int .i64 m]] w (OnePost R U a n c l (stepK k m n) (stepX k l) (stepB k m l) w) := by
  have hl := h.row.len
  by_cases k1 : k = 1
  · subst k1
    exact one_byte R U a n c l m w h (by simp [stepNo] at h0; omega)
  by_cases k2 : k = 2
  · subst k2
    exact one_word R U a n c l m w h (by simp [stepNo] at h0; omega)
  by_cases k4 : k = 4
  · subst k4
    exact one_long R U a n c l m w h (by simp [stepNo] at h0; omega)
  by_cases k8 : k = 8
  · subst k8
    exact one_wide R U a n c l m w h (by simp [stepNo] at h0; omega)
  by_cases k0 : k = 0
  · subst k0
    have hh : ¬ (n : Int) < m := by intro hc; simp [stepNo, hc] at h0
    have := one_take R U a n c l m m.toNat w h (by omega) hlim (by omega)
    simpa [stepK, stepX, stepB] using this
  by_cases km1 : k = -1
  · subst km1
    have := one_rest R U a n c l m w h hlim
    simpa [stepK, stepX, stepB, hl] using this
  by_cases km2 : k = -2
  · subst km2
    simp [stepNo, failOf] at h0
    split at h0 <;> omega
  have := one_left R U a n c l k m w h (by simpa using k1) (by simpa using k2) (by simpa using k4) (by simpa using k8) (by simpa using k0) (by simpa using km1) (by simpa using km2)
  simpa [stepK, stepX, stepB, hl, k1, k2, k4, k8, k0, km1, km2] using this
theorem one_no (R U : Nat) (a : Option Addr) (n c : Nat) (l : List Int) (k m : Int) (w : World) (h : RdAt w R U a n c l) (h0 : stepNo k m n ≠ 0) :
    Calls Try.prog 53 #[.pointer (some ⟨R, 0, none⟩), .agg #[.int .i64 k, .int .i64 m]] w (OneFail U (stepNo k m n) w) := by
  by_cases k1 : k = 1
  · subst k1
    by_cases hn : (n : Int) < 1
    · have := one_byte_fail R U a n c l m w h hn
      simpa [stepNo, hn] using this
    · exact absurd (by simp [stepNo]; omega) h0
  by_cases k2 : k = 2
  · subst k2
    by_cases hn : (n : Int) < 2
    · have := one_word_fail R U a n c l m w h hn
      simpa [stepNo, hn] using this
    · exact absurd (by simp [stepNo]; omega) h0
  by_cases k4 : k = 4
  · subst k4
    by_cases hn : (n : Int) < 4
    · have := one_long_fail R U a n c l m w h hn
      simpa [stepNo, hn] using this
    · exact absurd (by simp [stepNo]; omega) h0
  by_cases k8 : k = 8
  · subst k8
    by_cases hn : (n : Int) < 8
    · have := one_wide_fail R U a n c l m w h hn
      simpa [stepNo, hn] using this
    · exact absurd (by simp [stepNo]; omega) h0
  by_cases k0 : k = 0
  · subst k0
    by_cases hn : (n : Int) < m
    · have := one_take_fail R U a n c l m w h hn
      simpa [stepNo, hn] using this
    · exact absurd (by simp [stepNo]; omega) h0
  by_cases km2 : k = -2
  · subst km2
    have := one_end_step R U a n c l m w h
    simpa [stepNo] using this
  exact absurd (by simp [stepNo, k1, k2, k4, k8, k0, km2]) h0
end Go.Proofs.Ytknpdcnhdmbbiaa

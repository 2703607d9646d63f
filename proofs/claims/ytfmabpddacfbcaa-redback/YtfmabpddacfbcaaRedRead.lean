
/-
  red.readHeader.
-/
import Derived.Test.YtfmabpddacfbcaaRedBk
import Derived.Test.YtfmabpddacfbcaaRtpParse4
import Derived.Deep.Cut
import Derived.Deep.CutBlock
namespace Go.Proofs.Ytfmabpddacfbcaa
open Go.RowKit Go.Shelf
set_option linter.unusedVariables false
/-- A header as a value. -/
def hdV (p o : Int) (m : Bool) (s : Int) : Value := .agg #[.int .i64 p, .int .i64 o, .slice none 0 0, .bool m, .int .i64 s]
/-- What readHeader leaves: k bytes are read; the rest lies where it lay. -/
def HdPost (R U : Nat) (a : Option Addr) (n k : Nat) (l' : List Int) (v : Value) (w : World) (e : Ending) (w' : World) : Prop :=
  ∃ a' c', e = .returned v ∧ RdAt w' R U a' (n - k) c' l' ∧ Keep2 w w' R (some U) ∧ ∀ B, (0 < n → ∀ x, a = some x → x.block < B) → 0 < n - k → ∀ x, a' = some x → x.block < B
/-- In readHeader: the reader, the box of h (P), the box of the result. -/
structure HS (w W : World) (R U P : Nat) (a : Option Addr) (n c : Nat) (l : List Int) (cs : Array Value) : Prop where
  rd : RdAt W R U a n c l
  hb : W.heap[P]? = some (.cells cs 76 (0, 0))
  bx : W.heap[w.heap.size]? = some (.cells #[.int .i64 0, .int .i64 0, .slice none 0 0, .bool false, .int .i64 0] 76 (0, 0))
  zP : w.heap.size < P
  keep : Keep2 w W R (some U)
  ltR : R < w.heap.size
  ltU : U < w.heap.size
  old : 0 < n → ∀ x, a = some x → x.block < w.heap.size
theorem HS.c {w W : World} {R U P : Nat} {a : Option Addr} {n c : Nat} {l : List Int} {cs : Array Value} (h : HS w W R U P a n c l cs) (o : Nat) : W.cell? ⟨P, o, none⟩ = cs[o]? := by rw [cell_of_row W P o _ _ _ h.hb]
theorem HS.f {w W : World} {R U P : Nat} {a : Option Addr} {n c : Nat} {l : List Int} {cs : Array Value} (h : HS w W R U P a n c l cs) (o : Nat) : W.frozen? ⟨P, o, none⟩ = false := frozen_of_row W P o _ _ h.hb
theorem HS.start {w w1 : World} {R U : Nat} {a : Option Addr} {n c : Nat} {l : List Int} {cs : Array Value} (hr : RdAt w1 R U a n c l) (hk : Keep2 w w1 R (some U)) (hbx : w1.heap[w.heap.size]? = some (.cells #[.int .i64 0, .int .i64 0, .slice none 0 0, .bool false, .int .i64 0] 76 (0, 0))) (hR : R < w.heap.size) (hU : U < w.heap.size) (ho : 0 < n → ∀ x, a = some x → x.block < w.heap.size) (P : Nat) (hP : w1.heap.size = P) :
    HS w (w1.alloc (.cells cs 76)) R U P a n c l cs := by
  subst hP
  have hz := (Array.getElem?_eq_some_iff.1 hbx).1
  have hB : Below w1.heap.size w1 (w1.alloc (.cells cs 76)) := (Below.refl _ w1).alloc (Nat.le_refl _) _
  exact ⟨hr.below hB, lit_new rfl, (hB.block _ hz).trans hbx, hz, ⟨hB.os.trans hk.os, hB.tape.trans hk.tape, hB.output.trans hk.output, Nat.le_trans hk.size hB.size, fun k hk' e1 e2 => (hB.block k (by omega)).trans (hk.block k hk' e1 e2)⟩, hR, hU, ho⟩
theorem HS.took {w W W1 : World} {R U P : Nat} {a : Option Addr} {n c k : Nat} {l l' : List Int} {cs : Array Value} (h : HS w W R U P a n c l cs) (hk : k ≤ n) (hr : RdAt W1 R U (restA a c k) (n - k) (c - k) l') (hg : W.grownBy W1 (some R)) : HS w W1 R U P (restA a c k) (n - k) (c - k) l' cs :=
  ⟨hr, (hg.block P (Array.getElem?_eq_some_iff.1 h.hb).1 (by intro e; injection e with e; have := h.zP; have := h.ltR; omega)).trans h.hb, (hg.block _ (Array.getElem?_eq_some_iff.1 h.bx).1 (by intro e; injection e with e; have := h.ltR; omega)).trans h.bx, h.zP, keep2_trans h.keep (took_keep hg U), h.ltR, h.ltU, restA_old h.old⟩
theorem HS.store {w W : World} {R U P : Nat} {a : Option Addr} {n c : Nat} {l : List Int} {cs : Array Value} (h : HS w W R U P a n c l cs) (i : Nat) (v : Value) : HS w (W.setCell ⟨P, i, none⟩ v) R U P a n c l (cs.setIfInBounds i v) := by
  have h1 := h.zP; have h2 := h.ltR; have h3 := h.ltU
  have o : ∀ k, k ≠ P → (W.setCell ⟨P, i, none⟩ v).heap[k]? = W.heap[k]? := fun k hk => Below.heap_setCell W _ _ k hk
  exact ⟨⟨(o R (by omega)).trans h.rd.rd, (o U (by omega)).trans h.rd.run, h.rd.ne, h.rd.row.same (by simp) fun x h0 hx hl => o _ (by have := h.old h0 x hx; omega), h.rd.cap, h.rd.far⟩, heap_setCell_same W P i _ _ _ h.hb, (o _ (by omega)).trans h.bx, h1, ⟨h.keep.os, h.keep.tape, h.keep.output, by simpa using h.keep.size, fun k hk e1 e2 => (o k (by omega)).trans (h.keep.block k hk e1 e2)⟩, h2, h3, h.old⟩
/-- The end: h is stored as the result. -/
theorem HS.final {w W W2 : World} {R U P : Nat} {a : Option Addr} {n c : Nat} {l : List Int} {cs cs2 : Array Value} (h : HS w W R U P a n c l cs) (hp : Put W W2 w.heap.size cs2 76) : RdAt W2 R U a n c l ∧ Keep2 w W2 R (some U) := by
  have h1 := h.zP; have h2 := h.ltR; have h3 := h.ltU
  have o : ∀ k, k < W.heap.size → k ≠ w.heap.size → W2.heap[k]? = W.heap[k]? := fun k hk hne => hp.grown.block k hk (by simp; omega)
  have hzz := h.keep.size
  refine ⟨⟨(o R (by omega) (by omega)).trans h.rd.rd, (o U (by omega) (by omega)).trans h.rd.run, h.rd.ne, h.rd.row.same (by rw [hp.size]; exact Nat.le_refl _) fun x h0 hx hl => o _ hl (by have := h.old h0 x hx; omega), h.rd.cap, h.rd.far⟩, ?_⟩
  exact ⟨hp.grown.os.trans h.keep.os, hp.grown.tape.trans h.keep.tape, hp.grown.output.trans h.keep.output, by rw [hp.size]; exact h.keep.size, fun k hk e1 e2 => (o k (by omega) (by omega)).trans (h.keep.block k hk e1 e2)⟩
set_option maxRecDepth 100000 in
set_option maxHeartbeats 1000000 in
theorem readHeader_last (R U : Nat) (a : Option Addr) (n c : Nat) (l : List Int) (w : World) (h : RdAt w R U a n c l) (h1 : 1 ≤ n) (hx : l.getD 0 0 < 128) :
    Calls Try.prog 39 #[.pointer (some ⟨R, 0, none⟩)] w (HdPost R U a n 1 (l.drop 1) (hdV (l.getD 0 0) 0 false 0) w) := by
  obtain ⟨w0, hw0⟩ : ∃ w0, w.alloc (.cells #[.int .i64 0, .int .i64 0, .slice none 0 0, .bool false, .int .i64 0] 76) = w0 := ⟨_, rfl⟩
  have hB0 : Below w.heap.size w w0 := by rw [← hw0]; exact (Below.refl _ w).alloc (Nat.le_refl _) _
  have hbx0 : w0.heap[w.heap.size]? = some (.cells #[.int .i64 0, .int .i64 0, .slice none 0 0, .bool false, .int .i64 0] 76 (0, 0)) := by rw [← hw0]; exact lit_new rfl
  have hz0 : w0.heap.size = w.heap.size + 1 := by rw [← hw0]; simp
  have hR0 := h.below hB0
  have hk0 : Keep2 w w0 R (some U) := ⟨hB0.os, hB0.tape, hB0.output, hB0.size, fun k hk _ _ => hB0.block k hk⟩
  have hlR := h.ltR; have hlU := h.ltU
  have hold : 0 < n → ∀ x, a = some x → x.block < w.heap.size := fun h0 x hx => h.row.lt h0 x hx
  have hcap := h.cap
  have HW0 := Lib.hid hw0
  have HBY := byte_ok R U a n c l w0 hR0 h1
  rw [byte1 l (by have := h.row.len; omega)] at HBY
  have hb0 := h.row.ok 0
  generalize l.getD 0 0 = x at *
  obtain ⟨q1, q2, _⟩ := bits_byte x hb0.1 hb0.2
  rw [if_neg (by omega)] at q1
  rw [show x % 128 = x from by omega] at q2
  have HBY := Lib.hid HBY
  clear hw0 hB0 hR0 h
  go_enter Try.func39, Try.ntmps39
  go_wp2_with fail
  rw [HW0.out]
  refine (HBY.out).mono ?_
  rintro e w1 ⟨rfl, hR1, hg1⟩
  have hbx1 := (hg1.block w.heap.size (by omega) (by intro e; injection e with e; omega)).trans hbx0
  have hk1 := keep2_trans hk0 (took_keep hg1 U)
  have hz1 := hg1.size
  have hs := fun cs => HS.start (cs := cs) hR1 hk1 hbx1 hlR hlU (restA_old hold) w1.heap.size rfl
  have HS1 := Lib.hid (hs #[.int .i64 x, .int .i64 0, .slice none 0 0, .bool false, .int .i64 0])
  clear hR1 hg1 hbx0 hbx1 hk0 hk1 hs
  go_upto_if 16 with (fail)
  generalize w1.heap.size = P at HS1 ⊢
  generalize w1.alloc (.cells #[.int .i64 x, .int .i64 0, .slice none 0 0, .bool false, .int .i64 0] 76) = w2 at HS1 ⊢
  have bx := HS1.out.bx
  have fB : ∀ o, w2.frozen? ⟨w.heap.size, o, none⟩ = false := fun o => frozen_of_row w2 _ o _ _ bx
  have y0 : w2.cell? ⟨w.heap.size, 0, none⟩ = some (.int .i64 0) := by rw [cell_of_row w2 _ 0 _ _ _ bx]; rfl
  have y1 : w2.cell? ⟨w.heap.size, 1, none⟩ = some (.int .i64 0) := by rw [cell_of_row w2 _ 1 _ _ _ bx]; rfl
  have y2 : w2.cell? ⟨w.heap.size, 2, none⟩ = some (.slice none 0 0) := by rw [cell_of_row w2 _ 2 _ _ _ bx]; rfl
  have y3 : w2.cell? ⟨w.heap.size, 3, none⟩ = some (.bool false) := by rw [cell_of_row w2 _ 3 _ _ _ bx]; rfl
  have y4 : w2.cell? ⟨w.heap.size, 4, none⟩ = some (.int .i64 0) := by rw [cell_of_row w2 _ 4 _ _ _ bx]; rfl
  have c0 : w2.cell? ⟨P, 0, none⟩ = some (.int .i64 x) := HS1.out.c 0
  have c1 : w2.cell? ⟨P, 1, none⟩ = some (.int .i64 0) := HS1.out.c 1
  have c2 : w2.cell? ⟨P, 2, none⟩ = some (.slice none 0 0) := HS1.out.c 2
  have c3 : w2.cell? ⟨P, 3, none⟩ = some (.bool false) := HS1.out.c 3
  have c4 : w2.cell? ⟨P, 4, none⟩ = some (.int .i64 0) := HS1.out.c 4
  clear bx
  go_wp2_with fail
  obtain ⟨w9, hw9⟩ : ∃ w9, putL w2 w.heap.size 0 [.int .i64 x, .int .i64 0, .slice none 0 0, .bool false, .int .i64 0] = w9 := ⟨_, rfl⟩
  have P9 : Put w2 w9 w.heap.size #[.int .i64 x, .int .i64 0, .slice none 0 0, .bool false, .int .i64 0] 76 := by rw [← hw9]; exact putL_is (us := [.int .i64 0, .int .i64 0, .slice none 0 0, .bool false, .int .i64 0]) HS1.out.bx rfl
  simp only [putL, Nat.zero_add, Nat.reduceAdd] at hw9
  rw [hw9]
  have q9 := P9.row
  have hfin := HS1.out.final P9
  have d0 : w9.cell? ⟨w.heap.size, 0, none⟩ = some (.int .i64 x) := by rw [cell_of_row w9 _ 0 _ _ _ q9]; rfl
  have d1 : w9.cell? ⟨w.heap.size, 1, none⟩ = some (.int .i64 0) := by rw [cell_of_row w9 _ 1 _ _ _ q9]; rfl
  have d2 : w9.cell? ⟨w.heap.size, 2, none⟩ = some (.slice none 0 0) := by rw [cell_of_row w9 _ 2 _ _ _ q9]; rfl
  have d3 : w9.cell? ⟨w.heap.size, 3, none⟩ = some (.bool false) := by rw [cell_of_row w9 _ 3 _ _ _ q9]; rfl
  have d4 : w9.cell? ⟨w.heap.size, 4, none⟩ = some (.int .i64 0) := by rw [cell_of_row w9 _ 4 _ _ _ q9]; rfl
  exact bodyPost_ret (v := hdV x 0 false 0) (by simp [hdV, results, Try.results39, go_sem, d0, d1, d2, d3, d4]) rfl ⟨_, _, rfl, hfin.1, hfin.2, fun B hB => restA_old hB⟩
theorem or_word (x y : Int) (hx : 0 ≤ x ∧ x < 256) (hy : 0 ≤ y ∧ y < 65536) : bits .or .i64 (x * 65536) y = x * 65536 + y := by
  have e1 : (BitVec.ofInt 64 (x * 65536)).toNat = 2 ^ 16 * x.toNat := by rw [BitVec.toNat_ofInt]; omega
  have e2 : (BitVec.ofInt 64 y).toNat = y.toNat := by rw [BitVec.toNat_ofInt]; omega
  have key : (BitVec.ofInt 64 (x * 65536) ||| BitVec.ofInt 64 y).toNat = 2 ^ 16 * x.toNat + y.toNat := by
    rw [BitVec.toNat_or, e1, e2, ← Nat.two_pow_add_eq_or_of_lt (by omega)]
  show IntKind.i64.wrap ((BitVec.ofInt 64 (x * 65536) ||| BitVec.ofInt 64 y).toNat : Nat) = _
  rw [key, IntKind.wrap_i64]; omega
set_option maxRecDepth 100000 in
set_option maxHeartbeats 1000000 in
theorem readHeader_more (R U : Nat) (a : Option Addr) (n c : Nat) (l : List Int) (w : World) (h : RdAt w R U a n c l) (h4 : 4 ≤ n) (hx : 128 ≤ l.getD 0 0) (r : Int) (hr : Num ((l.drop 1).take 1) * 65536 + Num ((l.drop 2).take 2) = r) :
    Calls Try.prog 39 #[.pointer (some ⟨R, 0, none⟩)] w (HdPost R U a n 4 (l.drop 4) (hdV (l.getD 0 0 % 128) (r / 1024) true (r % 1024)) w) := by
  obtain ⟨w0, hw0⟩ : ∃ w0, w.alloc (.cells #[.int .i64 0, .int .i64 0, .slice none 0 0, .bool false, .int .i64 0] 76) = w0 := ⟨_, rfl⟩
  have hB0 : Below w.heap.size w w0 := by rw [← hw0]; exact (Below.refl _ w).alloc (Nat.le_refl _) _
  have hbx0 : w0.heap[w.heap.size]? = some (.cells #[.int .i64 0, .int .i64 0, .slice none 0 0, .bool false, .int .i64 0] 76 (0, 0)) := by rw [← hw0]; exact lit_new rfl
  have hz0 : w0.heap.size = w.heap.size + 1 := by rw [← hw0]; simp
  have hR0 := h.below hB0
  have hk0 : Keep2 w w0 R (some U) := ⟨hB0.os, hB0.tape, hB0.output, hB0.size, fun k hk _ _ => hB0.block k hk⟩
  have hlR := h.ltR; have hlU := h.ltU
  have hold : 0 < n → ∀ x, a = some x → x.block < w.heap.size := fun h0 x hx => h.row.lt h0 x hx
  have hcap := h.cap
  have HW0 := Lib.hid hw0
  have HBY := byte_ok R U a n c l w0 hR0 (by omega)
  rw [byte1 l (by have := h.row.len; omega)] at HBY
  have hb0 := h.row.ok 0
  have hn1 := num_lt (h.row.ok.drop 1) 1 (by rw [List.length_drop]; have := h.row.len; omega) 256 rfl
  have hn2 := num_lt (h.row.ok.drop 2) 2 (by rw [List.length_drop]; have := h.row.len; omega) 65536 rfl
  generalize l.getD 0 0 = x at *
  obtain ⟨q1, q2, _⟩ := bits_byte x hb0.1 hb0.2
  rw [if_pos hx] at q1
  obtain ⟨p, hp⟩ : ∃ p, x % 128 = p := ⟨_, rfl⟩
  rw [hp] at q2
  have HBY := Lib.hid HBY
  have HP := Lib.hid hp
  clear hw0 hB0 hR0 hp
  go_enter Try.func39, Try.ntmps39
  go_wp2_with fail
  rw [HW0.out]
  refine (HBY.out).mono ?_
  rintro e w1 ⟨rfl, hR1, hg1⟩
  have hbx1 := (hg1.block w.heap.size (by omega) (by intro e; injection e with e; omega)).trans hbx0
  have hk1 := keep2_trans hk0 (took_keep hg1 U)
  have hz1 := hg1.size
  have hs := fun cs => HS.start (cs := cs) hR1 hk1 hbx1 hlR hlU (restA_old hold) w1.heap.size rfl
  have HS1 := Lib.hid (hs #[.int .i64 p, .int .i64 0, .slice none 0 0, .bool true, .int .i64 0])
  clear hR1 hg1 hbx0 hbx1 hk0 hk1 hs
  go_upto_if 16 with (fail)
  generalize w1.heap.size = P at HS1 ⊢
  generalize w1.alloc (.cells #[.int .i64 p, .int .i64 0, .slice none 0 0, .bool true, .int .i64 0] 76) = w2 at HS1 ⊢
  have HB2 := byte_ok R U _ _ _ _ w2 HS1.out.rd (by omega)
  obtain ⟨x1, hx1⟩ : ∃ z, Num ((l.drop 1).take 1) = z := ⟨_, rfl⟩
  rw [hx1] at HB2 hn1 hr
  have HB2 := Lib.hid HB2
  go_wp2_with fail
  refine (HB2.out).mono ?_
  rintro e w3 ⟨rfl, hR3, hg3⟩
  have hS3 := HS1.out.took (by omega) hR3 hg3
  rw [List.drop_drop] at hS3
  have HS3 := Lib.hid hS3
  clear hR3 hg3 hS3 HB2 HS1 hx1
  have HB3 := word_ok R U _ _ _ _ w3 HS3.out.rd (by omega)
  obtain ⟨x2, hx2⟩ : ∃ z, Num ((l.drop 2).take 2) = z := ⟨_, rfl⟩
  rw [hx2] at HB3 hn2 hr
  have HB3 := Lib.hid HB3
  have hsh : x1 * 65536 = x1 * 65536 := rfl
  have hor := or_word x1 x2 hn1 hn2
  rw [hr] at hor
  go_wp2_with fail
  refine (HB3.out).mono ?_
  rintro e w4 ⟨rfl, hR4, hg4⟩
  have hS4 := HS3.out.took (by omega) hR4 hg4
  have HS4 := Lib.hid hS4
  clear hR4 hg4 hS4 HB3 HS3 hx2 hsh
  rw [List.drop_drop, show n - 1 - 1 - 2 = n - 4 from by omega, show 1 + 1 + 2 = 4 from rfl] at HS4
  have hm : bits .and .i64 r 1023 = r % 1024 := and1023 r
  have hrb : 0 ≤ r ∧ r < 16777216 := by omega
  go_upto_region 5 with (fail)
  have HST : Hid (∀ B, (0 < n → ∀ x, a = some x → x.block < B) → 0 < n - 4 → ∀ x, restA (restA (restA a c 1) (c - 1) 1) (c - 1 - 1) 2 = some x → x.block < B) := Lib.hid fun B hB h0 => by
    have := restA_old (k := 2) (c := c - 1 - 1) (restA_old (k := 1) (c := c - 1) (restA_old (k := 1) (c := c) hB))
    exact this (by omega)
  generalize restA (restA (restA a c 1) (c - 1) 1) (c - 1 - 1) 2 = a4 at HS4 HST
  generalize c - 1 - 1 - 2 = c4 at HS4
  clear hor hr hn1 hn2
  have f1 := HS4.out.f
  have k1 : w4.cell? ⟨P, 1, none⟩ = some (.int .i64 0) := HS4.out.c 1
  go_upto_region 6 with (fail)
  have hS5 := HS4.out.store 1 (.int .i64 (r / 1024))
  generalize w4.setCell ⟨P, 1, none⟩ (.int .i64 (r / 1024)) = w5 at hS5 ⊢
  have HS5 : Hid (HS w w5 R U P a4 (n - 4) c4 (l.drop 4) #[.int .i64 p, .int .i64 (r / 1024), .slice none 0 0, .bool true, .int .i64 0]) := Lib.hid hS5
  clear hS5 HS4 f1 k1
  have f1 := HS5.out.f
  have k1 : w5.cell? ⟨P, 4, none⟩ = some (.int .i64 0) := HS5.out.c 4
  go_upto_region 7 with (fail)
  have hS6 := HS5.out.store 4 (.int .i64 (r % 1024))
  generalize w5.setCell ⟨P, 4, none⟩ (.int .i64 (r % 1024)) = w2 at hS6 ⊢
  have HS1 : Hid (HS w w2 R U P a4 (n - 4) c4 (l.drop 4) #[.int .i64 p, .int .i64 (r / 1024), .slice none 0 0, .bool true, .int .i64 (r % 1024)]) := Lib.hid hS6
  clear hS6 HS5 f1 k1
  have bx := HS1.out.bx
  have fB : ∀ o, w2.frozen? ⟨w.heap.size, o, none⟩ = false := fun o => frozen_of_row w2 _ o _ _ bx
  have y0 : w2.cell? ⟨w.heap.size, 0, none⟩ = some (.int .i64 0) := by rw [cell_of_row w2 _ 0 _ _ _ bx]; rfl
  have y1 : w2.cell? ⟨w.heap.size, 1, none⟩ = some (.int .i64 0) := by rw [cell_of_row w2 _ 1 _ _ _ bx]; rfl
  have y2 : w2.cell? ⟨w.heap.size, 2, none⟩ = some (.slice none 0 0) := by rw [cell_of_row w2 _ 2 _ _ _ bx]; rfl
  have y3 : w2.cell? ⟨w.heap.size, 3, none⟩ = some (.bool false) := by rw [cell_of_row w2 _ 3 _ _ _ bx]; rfl
  have y4 : w2.cell? ⟨w.heap.size, 4, none⟩ = some (.int .i64 0) := by rw [cell_of_row w2 _ 4 _ _ _ bx]; rfl
  have c0 : w2.cell? ⟨P, 0, none⟩ = some (.int .i64 p) := HS1.out.c 0
  have c1 : w2.cell? ⟨P, 1, none⟩ = some (.int .i64 (r / 1024)) := HS1.out.c 1
  have c2 : w2.cell? ⟨P, 2, none⟩ = some (.slice none 0 0) := HS1.out.c 2
  have c3 : w2.cell? ⟨P, 3, none⟩ = some (.bool true) := HS1.out.c 3
  have c5 : w2.cell? ⟨P, 4, none⟩ = some (.int .i64 (r % 1024)) := HS1.out.c 4
  clear bx
  go_wp2_with fail
  obtain ⟨w9, hw9⟩ : ∃ w9, putL w2 w.heap.size 0 [.int .i64 p, .int .i64 (r / 1024), .slice none 0 0, .bool true, .int .i64 (r % 1024)] = w9 := ⟨_, rfl⟩
  have P9 : Put w2 w9 w.heap.size #[.int .i64 p, .int .i64 (r / 1024), .slice none 0 0, .bool true, .int .i64 (r % 1024)] 76 := by rw [← hw9]; exact putL_is (us := [.int .i64 0, .int .i64 0, .slice none 0 0, .bool false, .int .i64 0]) HS1.out.bx rfl
  simp only [putL, Nat.zero_add, Nat.reduceAdd] at hw9
  rw [hw9]
  have q9 := P9.row
  have hfin := HS1.out.final P9
  have d0 : w9.cell? ⟨w.heap.size, 0, none⟩ = some (.int .i64 p) := by rw [cell_of_row w9 _ 0 _ _ _ q9]; rfl
  have d1 : w9.cell? ⟨w.heap.size, 1, none⟩ = some (.int .i64 (r / 1024)) := by rw [cell_of_row w9 _ 1 _ _ _ q9]; rfl
  have d2 : w9.cell? ⟨w.heap.size, 2, none⟩ = some (.slice none 0 0) := by rw [cell_of_row w9 _ 2 _ _ _ q9]; rfl
  have d3 : w9.cell? ⟨w.heap.size, 3, none⟩ = some (.bool true) := by rw [cell_of_row w9 _ 3 _ _ _ q9]; rfl
  have d4 : w9.cell? ⟨w.heap.size, 4, none⟩ = some (.int .i64 (r % 1024)) := by rw [cell_of_row w9 _ 4 _ _ _ q9]; rfl
  rw [HP.out]
  exact bodyPost_ret (v := hdV p (r / 1024) true (r % 1024)) (by simp [hdV, results, Try.results39, go_sem, d0, d1, d2, d3, d4]) rfl ⟨_, _, rfl, hfin.1, hfin.2, HST.out⟩
set_option maxRecDepth 100000 in
set_option maxHeartbeats 1000000 in
theorem readHeader_short (R U : Nat) (a : Option Addr) (n c : Nat) (l : List Int) (w : World) (h : RdAt w R U a n c l) (hs : n = 0 ∨ (n < 4 ∧ 128 ≤ l.getD 0 0)) :
    Calls Try.prog 39 #[.pointer (some ⟨R, 0, none⟩)] w (ParseFail R U 20 w) := by
  obtain ⟨w0, hw0⟩ : ∃ w0, w.alloc (.cells #[.int .i64 0, .int .i64 0, .slice none 0 0, .bool false, .int .i64 0] 76) = w0 := ⟨_, rfl⟩
  have hB0 : Below w.heap.size w w0 := by rw [← hw0]; exact (Below.refl _ w).alloc (Nat.le_refl _) _
  have hR0 := h.below hB0
  have hk0 : Keep2 w w0 R (some U) := ⟨hB0.os, hB0.tape, hB0.output, hB0.size, fun k hk _ _ => hB0.block k hk⟩
  have HW0 := Lib.hid hw0
  by_cases h0 : n = 0
  · clear hw0
    go_enter Try.func39, Try.ntmps39
    go_wp2_with fail
    rw [HW0.out]
    refine (byte_fail R U a n c l w0 hR0 (by omega)).mono ?_
    rintro e w1 ⟨rfl, f1, f2, f3⟩
    exact ⟨rfl, rfl, f1, keep2_trans hk0 (fail_keep f2 R)⟩
  · have hx : 128 ≤ l.getD 0 0 := by omega
    have hn4 : n < 4 := by omega
    have HBY := byte_ok R U a n c l w0 hR0 (by omega)
    rw [byte1 l (by have := h.row.len; omega)] at HBY
    have hb0 := h.row.ok 0
    have hlR := h.ltR; have hlU := h.ltU
    generalize l.getD 0 0 = x at *
    obtain ⟨q1, q2, _⟩ := bits_byte x hb0.1 hb0.2
    rw [if_pos hx] at q1
    generalize x % 128 = p at q2
    have HBY := Lib.hid HBY
    clear hw0 hB0 hR0 h hs
    go_enter Try.func39, Try.ntmps39
    go_wp2_with fail
    rw [HW0.out]
    refine (HBY.out).mono ?_
    rintro e w1 ⟨rfl, hR1, hg1⟩
    have hk1 := keep2_trans hk0 (took_keep hg1 U)
    have hB2 : ∀ o, Below w1.heap.size w1 (w1.alloc o) := fun o => (Below.refl _ w1).alloc (Nat.le_refl _) _
    have hR2 := fun o => hR1.below (hB2 o)
    have hk2 : ∀ o, Keep2 w (w1.alloc o) R (some U) := fun o => keep2_trans hk1 ⟨(hB2 o).os, (hB2 o).tape, (hB2 o).output, (hB2 o).size, fun k hk _ _ => (hB2 o).block k hk⟩
    have HR2 := Lib.hid hR2; have HK2 := Lib.hid hk2
    clear hR1 hg1 hk0 hk1 hB2 hR2 hk2 HBY
    go_wp2_with fail
    by_cases h2 : 2 ≤ n
    · refine (byte_ok R U _ _ _ _ _ (HR2.out _) (by omega)).mono ?_
      rintro e w3 ⟨rfl, hR3, hg3⟩
      have HK3 := Lib.hid (keep2_trans (HK2.out _) (took_keep hg3 U)); have HR3 := Lib.hid hR3
      clear hR3 hg3
      generalize Num ((l.drop 1).take 1) = x1
      go_wp2_with fail
      refine (word_fail R U _ _ _ _ w3 HR3.out (by omega)).mono ?_
      rintro e w4 ⟨rfl, f1, f2, f3⟩
      exact ⟨rfl, rfl, f1, keep2_trans HK3.out (fail_keep f2 R)⟩
    · refine (byte_fail R U _ _ _ _ _ (HR2.out _) (by omega)).mono ?_
      rintro e w3 ⟨rfl, f1, f2, f3⟩
      exact ⟨rfl, rfl, f1, keep2_trans (HK2.out _) (fail_keep f2 R)⟩
end Go.Proofs.Ytfmabpddacfbcaa

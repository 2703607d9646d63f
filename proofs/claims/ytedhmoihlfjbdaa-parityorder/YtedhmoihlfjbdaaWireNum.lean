/-
  wire.Reader: its state, and the contracts of live, Left and Fail.
-/
import Derived.Test.YtedhmoihlfjbdaaStrRef2
import Derived.WalkLawsBesides
namespace Go.Proofs.Ytedhmoihlfjbdaa
open Go.RowKit Go.Shelf
set_option linter.unusedVariables false
/-- Block R holds a Reader at work (its run is block U): the bytes that are left are l. -/
structure RdAt (W : World) (R U : Nat) (a : Option Addr) (n c : Nat) (l : List Int) : Prop where
  rd : W.heap[R]? = some (.cells #[.slice a n c, .pointer (some ⟨U, 0, Option.none⟩)] 227 (0, 0))
  run : W.heap[U]? = some (.cells #[.bool false, .int .i64 0] 219 (0, 0))
  ne : R ≠ U
  row : BAt W a n l
  cap : n ≤ c
  far : 0 < n → ∀ x, a = some x → x.block ≠ R ∧ x.block ≠ U
theorem RdAt.r0 {W : World} {R U : Nat} {a : Option Addr} {n c : Nat} {l : List Int} (h : RdAt W R U a n c l) : W.cell? ⟨R, 0, Option.none⟩ = some (.slice a n c) := by rw [cell_of_row W R 0 _ _ _ h.rd]; rfl
theorem RdAt.r1 {W : World} {R U : Nat} {a : Option Addr} {n c : Nat} {l : List Int} (h : RdAt W R U a n c l) : W.cell? ⟨R, 1, Option.none⟩ = some (.pointer (some ⟨U, 0, Option.none⟩)) := by rw [cell_of_row W R 1 _ _ _ h.rd]; rfl
theorem RdAt.u0 {W : World} {R U : Nat} {a : Option Addr} {n c : Nat} {l : List Int} (h : RdAt W R U a n c l) : W.cell? ⟨U, 0, Option.none⟩ = some (.bool false) := by rw [cell_of_row W U 0 _ _ _ h.run]; rfl
theorem RdAt.u1 {W : World} {R U : Nat} {a : Option Addr} {n c : Nat} {l : List Int} (h : RdAt W R U a n c l) : W.cell? ⟨U, 1, Option.none⟩ = some (.int .i64 0) := by rw [cell_of_row W U 1 _ _ _ h.run]; rfl
theorem RdAt.fr {W : World} {R U : Nat} {a : Option Addr} {n c : Nat} {l : List Int} (h : RdAt W R U a n c l) (o : Nat) : W.frozen? ⟨R, o, Option.none⟩ = false := frozen_of_row W R o _ _ h.rd
theorem RdAt.fu {W : World} {R U : Nat} {a : Option Addr} {n c : Nat} {l : List Int} (h : RdAt W R U a n c l) (o : Nat) : W.frozen? ⟨U, o, Option.none⟩ = false := frozen_of_row W U o _ _ h.run
theorem RdAt.ltR {W : World} {R U : Nat} {a : Option Addr} {n c : Nat} {l : List Int} (h : RdAt W R U a n c l) : R < W.heap.size := (Array.getElem?_eq_some_iff.1 h.rd).1
theorem RdAt.ltU {W : World} {R U : Nat} {a : Option Addr} {n c : Nat} {l : List Int} (h : RdAt W R U a n c l) : U < W.heap.size := (Array.getElem?_eq_some_iff.1 h.run).1
theorem RdAt.below {W W' : World} {R U : Nat} {a : Option Addr} {n c : Nat} {l : List Int} (h : RdAt W R U a n c l) (hb : Below W.heap.size W W') : RdAt W' R U a n c l :=
  ⟨(hb.block R h.ltR).trans h.rd, (hb.block U h.ltU).trans h.run, h.ne, h.row.below hb, h.cap, h.far⟩
/-- What a reader that ends panics with. -/
def failV (U : Nat) : Value := .iface 233 (.agg #[.pointer (some ⟨U, 0, none⟩)])
def FailPost (U : Nat) (f : Int) (w : World) (e : Ending) (w' : World) : Prop :=
  e = .panicked [{ v := failV U, recovered := false }] ∧ w'.heap[U]? = some (.cells #[.bool false, .int .i64 f] 219 (0, 0)) ∧ w.grownBy w' (some U) ∧ w.heap.size = w'.heap.size
theorem live_any (R U : Nat) (a : Option Addr) (n c : Nat) (l : List Int) (w : World) (h : RdAt w R U a n c l) :
    Calls Try.prog 141 #[.pointer (some ⟨R, 0, none⟩)] w (SameV (.bool true) w) := by
  have r1 := h.r1; have u0 := h.u0
  have hne : ∀ w, (binOp .neq 222 (.pointer (some ⟨U, 0, none⟩)) (.pointer none)).run Try.prog w = .ok (.bool true) w := fun w => by kernel_rfl
  go_enter Try.func141, Try.ntmps141
  go_wp2
  go_ret
  exact ⟨rfl, rfl⟩
theorem left_any (R U : Nat) (a : Option Addr) (n c : Nat) (l : List Int) (w : World) (h : RdAt w R U a n c l) :
    Calls Try.prog 108 #[.pointer (some ⟨R, 0, none⟩)] w (SameV (.int .i64 n) w) := by
  have r0 := h.r0
  have HL := Lib.hid (live_any R U a n c l w h)
  go_enter Try.func108, Try.ntmps108
  go_wp2_with (go_at_call 141; refine (HL.out).mono ?_; rintro e w' ⟨rfl, rfl⟩)
  go_ret
  exact ⟨rfl, rfl⟩
theorem fail_nz (R U : Nat) (a : Option Addr) (n c : Nat) (l : List Int) (f : Int) (w : World) (h : RdAt w R U a n c l) (hf : (f == 0) = false) :
    Calls Try.prog 118 #[.pointer (some ⟨R, 0, none⟩), .int .i64 f] w (FailPost U f w) := by
  have r1 := h.r1; have u1 := h.u1; have f1 := h.fu 1
  have HL := Lib.hid (live_any R U a n c l w h)
  have HH := Lib.hid h; clear h
  have hne : R ≠ U := HH.out.ne
  have r1' : ∀ v, (w.setCell ⟨U, 1, none⟩ v).cell? ⟨R, 1, none⟩ = some (.pointer (some ⟨U, 0, none⟩)) := fun v => (World.cell?_of_block (w := w) (a := ⟨R, 1, none⟩) (Below.heap_setCell w ⟨U, 1, none⟩ v R hne)).trans r1
  go_enter Try.func118, Try.ntmps118
  go_wp2_with (go_at_call 141; refine (HL.out).mono ?_; rintro e w' ⟨rfl, rfl⟩)
  exact ⟨rfl, rfl, heap_setCell_same w U 1 _ _ _ HH.out.run, ⟨rfl, rfl, rfl, by simp, fun k _ hk => Below.heap_setCell w _ _ k (fun e => hk (by rw [e]))⟩, by simp⟩
theorem fail_z (R U : Nat) (a : Option Addr) (n c : Nat) (l : List Int) (w : World) (h : RdAt w R U a n c l) :
    Calls Try.prog 118 #[.pointer (some ⟨R, 0, none⟩), .int .i64 0] w (FailPost U 21 w) := by
  have r1 := h.r1; have u1 := h.u1; have f1 := h.fu 1
  have HL := Lib.hid (live_any R U a n c l w h)
  have HH := Lib.hid h; clear h
  have hne : R ≠ U := HH.out.ne
  have r1' : ∀ v, (w.setCell ⟨U, 1, none⟩ v).cell? ⟨R, 1, none⟩ = some (.pointer (some ⟨U, 0, none⟩)) := fun v => (World.cell?_of_block (w := w) (a := ⟨R, 1, none⟩) (Below.heap_setCell w ⟨U, 1, none⟩ v R hne)).trans r1
  go_enter Try.func118, Try.ntmps118
  go_wp2_with (go_at_call 141; refine (HL.out).mono ?_; rintro e w' ⟨rfl, rfl⟩)
  exact ⟨rfl, rfl, heap_setCell_same w U 1 _ _ _ HH.out.run, ⟨rfl, rfl, rfl, by simp, fun k _ hk => Below.heap_setCell w _ _ k (fun e => hk (by rw [e]))⟩, by simp⟩
def failOf (f : Int) : Int := if f = 0 then 21 else f
theorem fail_any (R U : Nat) (a : Option Addr) (n c : Nat) (l : List Int) (f : Int) (w : World) (h : RdAt w R U a n c l) :
    Calls Try.prog 118 #[.pointer (some ⟨R, 0, none⟩), .int .i64 f] w (FailPost U (failOf f) w) := by
  unfold failOf
  by_cases hf : f = 0
  · rw [if_pos hf, hf]; exact fail_z R U a n c l w h
  · rw [if_neg hf]; exact fail_nz R U a n c l f w h (by simpa using hf)
/-- The rest of a slice, from k on. -/
def restA (a : Option Addr) (c k : Nat) : Option Addr := if c = k then a else a.map (·.add k)
theorem restA_bat {W : World} {a : Option Addr} {n c : Nat} {l : List Int} (h : BAt W a n l) (hc : n ≤ c) (k : Nat) (hk : k ≤ n) : BAt W (restA a c k) (n - k) (l.drop k) := by
  unfold restA
  by_cases e : k = n
  · subst e
    have hl := h.len
    exact ⟨by simp; omega, by omega, 0, 0, fun i hi => by omega⟩
  · rw [if_neg (by omega)]
    obtain ⟨b, o, hr⟩ := h.row
    obtain ⟨rfl, _⟩ := hr 0 (by omega)
    have := h.drop k hk
    simp only [Option.map_some]
    rwa [show (Addr.add ⟨b, o, Option.none⟩ k) = ⟨b, o + k, Option.none⟩ from by unfold Addr.add; split <;> simp_all]
theorem restA_far {a : Option Addr} {n c k R U : Nat} (hc : n ≤ c) (hk : k ≤ n) (hf : 0 < n → ∀ x, a = some x → x.block ≠ R ∧ x.block ≠ U) : 0 < n - k → ∀ x, restA a c k = some x → x.block ≠ R ∧ x.block ≠ U := fun h0 x hx => by
  unfold restA at hx
  rw [if_neg (by omega)] at hx
  cases a with
  | none => cases hx
  | some y =>
    simp only [Option.map_some, Option.some.injEq] at hx
    have := hf (by omega) y rfl
    rw [← hx]
    have e : (y.add k).block = y.block := by unfold Addr.add; split <;> rfl
    rw [e]; exact this
theorem run_rest (a : Option Addr) (n c k : Nat) (hk : k ≤ n) (hn : n ≤ 9223372036854775807) (w : World) : (Instr.slice 26 (.slice a n c) (some (.int .i64 (k : Int))) none none).run Try.prog w = .ok (.slice (restA a c k) (n - k) (c - k)) w := by
  have ht : Try.prog.underlying 26 = some (.slice (Try.prog.elem 26)) := by kernel_rfl
  have hs : (sizeOf (Try.prog.elem 26)).run Try.prog w = .ok 1 w := by kernel_rfl
  rw [run_slice_l w 26 a n c ht .i64 (k : Int) (by omega) (by omega), Int.toNat_natCast, hs]
  simp only [sliced, restA, Result.andThen, Nat.mul_one]
/-- What a read of k bytes leaves: the Reader goes on behind them. -/
def TookPost (R U : Nat) (a : Option Addr) (n c : Nat) (l : List Int) (k : Nat) (v : Value) (w : World) (e : Ending) (w' : World) : Prop :=
  e = .returned v ∧ RdAt w' R U (restA a c k) (n - k) (c - k) (l.drop k) ∧ w.grownBy w' (some R)
set_option maxHeartbeats 1000000 in
theorem next_ok (R U : Nat) (a : Option Addr) (n c : Nat) (l : List Int) (k : Nat) (w : World) (h : RdAt w R U a n c l) (hk : k ≤ n) :
    Calls Try.prog 145 #[.pointer (some ⟨R, 0, none⟩), .int .i64 k] w (TookPost R U a n c l k (.slice a k c) w) := by
  have r0 := h.r0; have f0 := h.fr 0
  have hz := h.row.lim
  have HL := Lib.hid (left_any R U a n c l w h)
  have hgt : ¬ (n : Int) < (k : Int) := by omega
  have hc0 : (0 : Int) ≤ (k : Int) := by omega
  have hc1 : (k : Int) ≤ (c : Int) := by have := h.cap; omega
  have hsl := run_rest a n c k hk (by omega)
  have HH := Lib.hid h; clear h
  go_enter Try.func145, Try.ntmps145
  go_wp2_with (go_at_call 108; refine (HL.out).mono ?_; rintro e w' ⟨rfl, rfl⟩)
  go_ret
  have hbw : w.grownBy (w.setCell ⟨R, 0, none⟩ (.slice (restA a c k) (n - k) (c - k))) (some R) := ⟨rfl, rfl, rfl, by simp, fun j _ hj => Below.heap_setCell w _ _ j (fun e => hj (by rw [e]))⟩
  refine ⟨rfl, ⟨heap_setCell_same w R 0 _ _ _ HH.out.rd, (hbw.block U HH.out.ltU (fun e => HH.out.ne (by simpa using e.symm))).trans HH.out.run, HH.out.ne, ?_, by have := HH.out.cap; omega, restA_far HH.out.cap hk HH.out.far⟩, hbw⟩
  refine (restA_bat HH.out.row HH.out.cap k hk).same hbw.size fun x h0 hx hl => hbw.block x.block hl (fun e => ?_)
  exact (restA_far HH.out.cap hk HH.out.far h0 x hx).1 (by simpa using e)
theorem next_fail (R U : Nat) (a : Option Addr) (n c : Nat) (l : List Int) (k : Int) (w : World) (h : RdAt w R U a n c l) (hk : (n : Int) < k) :
    Calls Try.prog 145 #[.pointer (some ⟨R, 0, none⟩), .int .i64 k] w (FailPost U 20 w) := by
  have HL := Lib.hid (left_any R U a n c l w h)
  have HF := Lib.hid (fail_nz R U a n c l 20 w h rfl)
  clear h
  go_enter Try.func145, Try.ntmps145
  go_wp2_with (first
    | (go_at_call 108; refine (HL.out).mono ?_; rintro e w' ⟨rfl, rfl⟩)
    | (go_at_call 118; refine (HF.out).mono ?_; rintro e w' ⟨rfl, h1, h2, h3⟩))
  exact ⟨rfl, rfl, h1, h2, h3⟩
end Go.Proofs.Ytedhmoihlfjbdaa
namespace Go.Proofs.Ytedhmoihlfjbdaa
open Go.RowKit Go.Shelf
set_option linter.unusedVariables false
/-- Bytes as a number, the highest first. -/
def Num (l : List Int) : Int := l.foldl (fun a b => a * 256 + b) 0
theorem Num_take (l : List Int) (k : Nat) (h : k < l.length) : Num (l.take (k + 1)) = Num (l.take k) * 256 + l.getD k 0 := by
  have e : l.take (k + 1) = l.take k ++ [l.getD k 0] := by
    rw [List.take_add_one, List.getElem?_eq_getElem h, List.getD_eq_getElem?_getD, List.getElem?_eq_getElem h]; rfl
  unfold Num
  rw [e, List.foldl_append]; rfl
theorem Num_bd (l : List Int) (hl : Str.Ok l) : ∀ k, k ≤ l.length → 0 ≤ Num (l.take k) ∧ Num (l.take k) < 256 ^ k
  | 0, _ => by simp [Num]
  | k + 1, h => by
    have ih := Num_bd l hl k (by omega)
    have := hl k
    rw [Num_take l k (by omega), Int.pow_succ]
    omega
theorem or_add (x y : Int) (hx : 0 ≤ x) (hx' : x ≤ 72057594037927935) (hy : 0 ≤ y ∧ y < 256) : bits .or .u64 (x * 256) y = x * 256 + y := by
  have e1 : (BitVec.ofInt 64 (x * 256)).toNat = 2 ^ 8 * x.toNat := by rw [BitVec.toNat_ofInt]; omega
  have e2 : (BitVec.ofInt 64 y).toNat = y.toNat := by rw [BitVec.toNat_ofInt]; omega
  have key : (BitVec.ofInt 64 (x * 256) ||| BitVec.ofInt 64 y).toNat = 2 ^ 8 * x.toNat + y.toNat := by
    rw [BitVec.toNat_or, e1, e2, ← Nat.two_pow_add_eq_or_of_lt (by omega)]
  show IntKind.u64.wrap ((BitVec.ofInt 64 (x * 256) ||| BitVec.ofInt 64 y).toNat : Nat) = _
  rw [key]
  have : ∀ n : Int, IntKind.u64.wrap n = n % 18446744073709551616 := fun n => by simp [IntKind.wrap, IntKind.bits, IntKind.signed]
  rw [this]; omega
set_option maxHeartbeats 1000000 in
set_option maxRecDepth 100000 in
theorem number_ok (R U : Nat) (a : Option Addr) (n c : Nat) (l : List Int) (k : Nat) (w : World) (h : RdAt w R U a n c l) (hk : k ≤ n) (h8 : k ≤ 8) :
    Calls Try.prog 140 #[.pointer (some ⟨R, 0, none⟩), .int .i64 k] w (TookPost R U a n c l k (.int .u64 (Num (l.take k))) w) := by
  have HN := Lib.hid (next_ok R U a n c l k w h hk)
  have HH := Lib.hid h; clear h
  have HLN := Lib.hid HH.out.row.len
  go_enter Try.func140, Try.ntmps140
  go_wp2_with fail
  refine (HN.out).mono ?_
  rintro e w1 ⟨rfl, hR1, hg1⟩
  have hb1 : BAt w1 a k (l.take k) := by
    refine (HH.out.row.take k hk).same hg1.size fun x h0 hx hl => hg1.block x.block hl (fun e => ?_)
    exact (HH.out.far (by omega) x hx).1 (by simpa using e)
  have HR1 := Lib.hid hR1; have HG1 := Lib.hid hg1; have HB1 := Lib.hid hb1
  clear hR1 hg1 hb1 HN
  go_wp2
  go_loop [5, 12] (fun v i => ∃ j : Nat, j ≤ k ∧ i = .int .i64 j ∧ v = .int .u64 (Num (l.take j))) (fun _ i => k - (intOf i).toNat)
  case atStart => exact ⟨0, Nat.zero_le _, rfl, by simp [Num]⟩
  case round =>
    obtain ⟨j, hj, rfl, rfl⟩ := hrel
    have hbd := Num_bd l HH.out.row.ok j (by have := HLN.out; omega)
    by_cases hlt : j < k
    · have hltz : (j : Int) < (k : Int) := by omega
      obtain ⟨b, o, hr⟩ := HB1.out.row
      obtain ⟨rfl, _, d, q1, q2⟩ := hr j hlt
      rw [getD_take', if_pos hlt] at d q1 q2
      have hnx := Num_take l j (by have := HLN.out; omega)
      have HNX := Lib.hid hnx
      have hp : (256 : Int) ^ j ≤ 256 ^ 7 := by
        have : (256 : Nat) ^ j ≤ 256 ^ 7 := Nat.pow_le_pow_right (by decide) (by omega)
        exact_mod_cast this
      have hb2 : Num (l.take j) ≤ 72057594037927935 := by have := hbd.2; have e : (256 : Int) ^ 7 = 72057594037927936 := by decide
                                                          omega
      obtain ⟨hb0, _⟩ := hbd
      generalize Num (l.take j) = acc at *
      generalize l.getD j 0 = y at *
      have hor := or_add acc y hb0 hb2 ⟨q1, q2⟩
      have HOR := Lib.hid hor
      clear hnx hp hr hor
      go_wp2
      go_round
      case rel => exact ⟨j + 1, by omega, by go_num, by rw [HOR.out, HNX.out]⟩
      case measure => simp [intOf]; omega
    · have hltz : ¬ (j : Int) < (k : Int) := by omega
      obtain rfl : j = k := by omega
      go_wp2
      go_ret
      exact ⟨rfl, HR1.out, HG1.out⟩
theorem number_fail (R U : Nat) (a : Option Addr) (n c : Nat) (l : List Int) (k : Int) (w : World) (h : RdAt w R U a n c l) (hk : (n : Int) < k) :
    Calls Try.prog 140 #[.pointer (some ⟨R, 0, none⟩), .int .i64 k] w (FailPost U 20 w) := by
  have HN := Lib.hid (next_fail R U a n c l k w h hk); clear h
  go_enter Try.func140, Try.ntmps140
  go_wp2_with (go_at_call 145; refine (HN.out).mono ?_; rintro e w' ⟨rfl, h1, h2, h3⟩)
  exact ⟨rfl, rfl, h1, h2, h3⟩
theorem num_lt {l : List Int} (hl : Str.Ok l) (k : Nat) (hk : k ≤ l.length) (N : Int) (hN : (256 : Int) ^ k = N) : 0 ≤ Num (l.take k) ∧ Num (l.take k) < N := by
  have := Num_bd l hl k hk; rw [hN] at this; exact this
theorem byte_ok (R U : Nat) (a : Option Addr) (n c : Nat) (l : List Int) (w : World) (h : RdAt w R U a n c l) (hk : 1 ≤ n) :
    Calls Try.prog 103 #[.pointer (some ⟨R, 0, none⟩)] w (TookPost R U a n c l 1 (.int .i64 (Num (l.take 1))) w) := by
  have HN := Lib.hid (number_ok R U a n c l 1 w h hk (by decide))
  have hb := num_lt h.row.ok 1 (by have := h.row.len; omega) 256 (by decide)
  generalize Num (l.take 1) = x at HN hb ⊢
  obtain ⟨b1, b2⟩ := hb
  clear h
  go_enter Try.func103, Try.ntmps103
  go_wp2_with (go_at_call 140; refine (HN.out).mono ?_; rintro e w' ⟨rfl, h1, h2⟩; have H1 := Lib.hid h1; have H2 := Lib.hid h2; clear h1 h2)
  go_ret
  exact ⟨rfl, H1.out, H2.out⟩
theorem word_ok (R U : Nat) (a : Option Addr) (n c : Nat) (l : List Int) (w : World) (h : RdAt w R U a n c l) (hk : 2 ≤ n) :
    Calls Try.prog 104 #[.pointer (some ⟨R, 0, none⟩)] w (TookPost R U a n c l 2 (.int .u16 (Num (l.take 2))) w) := by
  have HN := Lib.hid (number_ok R U a n c l 2 w h hk (by decide))
  have hb := num_lt h.row.ok 2 (by have := h.row.len; omega) 65536 (by decide)
  generalize Num (l.take 2) = x at HN hb ⊢
  obtain ⟨b1, b2⟩ := hb
  have hw : IntKind.u16.wrap x = x := by rw [show IntKind.u16.wrap x = x % 65536 by simp [IntKind.wrap, IntKind.bits, IntKind.signed]]; omega
  clear h
  go_enter Try.func104, Try.ntmps104
  go_wp2_with (go_at_call 140; refine (HN.out).mono ?_; rintro e w' ⟨rfl, h1, h2⟩; have H1 := Lib.hid h1; have H2 := Lib.hid h2; clear h1 h2)
  go_ret
  exact ⟨rfl, H1.out, H2.out⟩
theorem long_ok (R U : Nat) (a : Option Addr) (n c : Nat) (l : List Int) (w : World) (h : RdAt w R U a n c l) (hk : 4 ≤ n) :
    Calls Try.prog 106 #[.pointer (some ⟨R, 0, none⟩)] w (TookPost R U a n c l 4 (.int .u32 (Num (l.take 4))) w) := by
  have HN := Lib.hid (number_ok R U a n c l 4 w h hk (by decide))
  have hb := num_lt h.row.ok 4 (by have := h.row.len; omega) 4294967296 (by decide)
  generalize Num (l.take 4) = x at HN hb ⊢
  obtain ⟨b1, b2⟩ := hb
  have hw : IntKind.u32.wrap x = x := by rw [show IntKind.u32.wrap x = x % 4294967296 by simp [IntKind.wrap, IntKind.bits, IntKind.signed]]; omega
  clear h
  go_enter Try.func106, Try.ntmps106
  go_wp2_with (go_at_call 140; refine (HN.out).mono ?_; rintro e w' ⟨rfl, h1, h2⟩; have H1 := Lib.hid h1; have H2 := Lib.hid h2; clear h1 h2)
  go_ret
  exact ⟨rfl, H1.out, H2.out⟩
theorem byte_fail (R U : Nat) (a : Option Addr) (n c : Nat) (l : List Int) (w : World) (h : RdAt w R U a n c l) (hk : (n : Int) < 1) :
    Calls Try.prog 103 #[.pointer (some ⟨R, 0, none⟩)] w (FailPost U 20 w) := by
  have HN := Lib.hid (number_fail R U a n c l 1 w h hk); clear h
  go_enter Try.func103, Try.ntmps103
  go_wp2_with (go_at_call 140; refine (HN.out).mono ?_; rintro e w' ⟨rfl, h1, h2, h3⟩)
  exact ⟨rfl, rfl, h1, h2, h3⟩
theorem word_fail (R U : Nat) (a : Option Addr) (n c : Nat) (l : List Int) (w : World) (h : RdAt w R U a n c l) (hk : (n : Int) < 2) :
    Calls Try.prog 104 #[.pointer (some ⟨R, 0, none⟩)] w (FailPost U 20 w) := by
  have HN := Lib.hid (number_fail R U a n c l 2 w h hk); clear h
  go_enter Try.func104, Try.ntmps104
  go_wp2_with (go_at_call 140; refine (HN.out).mono ?_; rintro e w' ⟨rfl, h1, h2, h3⟩)
  exact ⟨rfl, rfl, h1, h2, h3⟩
theorem long_fail (R U : Nat) (a : Option Addr) (n c : Nat) (l : List Int) (w : World) (h : RdAt w R U a n c l) (hk : (n : Int) < 4) :
    Calls Try.prog 106 #[.pointer (some ⟨R, 0, none⟩)] w (FailPost U 20 w) := by
  have HN := Lib.hid (number_fail R U a n c l 4 w h hk); clear h
  go_enter Try.func106, Try.ntmps106
  go_wp2_with (go_at_call 140; refine (HN.out).mono ?_; rintro e w' ⟨rfl, h1, h2, h3⟩)
  exact ⟨rfl, rfl, h1, h2, h3⟩
/-- What Take leaves: new bytes; the Reader goes on behind them. -/
def TakePost (R U : Nat) (a : Option Addr) (n c : Nat) (l : List Int) (k : Nat) (w : World) (e : Ending) (w' : World) : Prop :=
  ∃ a' c', e = .returned (.slice a' k c') ∧ Own w' w.heap.size a' k c' (l.take k) ∧ RdAt w' R U (restA a c k) (n - k) (c - k) (l.drop k) ∧ w.grownBy w' (some R)
theorem take_core (R U : Nat) (a : Option Addr) (n c : Nat) (l : List Int) (k : Nat) (w w1 : World) (h : RdAt w R U a n c l) (hk : k ≤ n) (hlim : n ≤ 140737488355328) (hR1 : RdAt w1 R U (restA a c k) (n - k) (c - k) (l.drop k)) (hg1 : w.grownBy w1 (some R)) :
    ∃ a' c' w', (Builtin.append_ #[26, 26] 26 #[.slice none 0 0, .slice a k c]).run Try.prog w1 = .ok (.slice a' k c') w' ∧ Own w' w.heap.size a' k c' (l.take k) ∧ RdAt w' R U (restA a c k) (n - k) (c - k) (l.drop k) ∧ w.grownBy w' (some R) := by
  have hb1 : BAt w1 a k (l.take k) := by
    by_cases h0 : 0 < k
    · exact (h.row.take k hk).same hg1.size fun x _ hx hl => hg1.block x.block hl (fun e => (h.far (by omega) x hx).1 (by simpa using e))
    · exact ⟨by simp; omega, by omega, 0, 0, fun i hi => by omega⟩
  obtain ⟨a', c', w', hr, ho, hb⟩ := append_copy w1 26 a k c _ hb1 (by omega)
  exact ⟨a', c', w', hr, ho.mono hg1.size, hR1.below hb, ⟨hb.os.trans hg1.os, hb.tape.trans hg1.tape, hb.output.trans hg1.output, Nat.le_trans hg1.size hb.size, fun j hj hne => (hb.block j (Nat.lt_of_lt_of_le hj hg1.size)).trans (hg1.block j hj hne)⟩⟩
set_option maxHeartbeats 1000000 in
theorem take_ok (R U : Nat) (a : Option Addr) (n c : Nat) (l : List Int) (i : Int) (k : Nat) (w : World) (h : RdAt w R U a n c l) (hk : k ≤ n) (hlim : n ≤ 140737488355328) (hi : max i 0 = (k : Int)) :
    Calls Try.prog 119 #[.pointer (some ⟨R, 0, none⟩), .int .i64 i] w (TakePost R U a n c l k w) := by
  have HN := Lib.hid (next_ok R U a n c l k w h hk)
  have HH := Lib.hid h; clear h
  by_cases h0 : 0 ≤ i
  · obtain rfl : i = (k : Int) := by omega
    clear hi
    go_enter Try.func119, Try.ntmps119
    go_wp2_with (first
      | (go_at_call 145; refine (HN.out).mono ?_; rintro e w1 ⟨rfl, hR1, hg1⟩
         obtain ⟨a', c', w', hr, ho, hR, hg⟩ := take_core R U a n c l k w w1 HH.out hk hlim hR1 hg1
         have HR := Lib.hid hR; have HG := Lib.hid hg; have HO := Lib.hid ho; have HRUN := Lib.hid hr; clear hR hg ho hr hR1 hg1)
      | (at_builtin; refine Lib.wpList_append_run _ rfl _ _ 26 26 rfl (.slice none 0 0) (.slice a k c) (by rfl) (by rfl) _ _ HRUN.out ?_))
    all_goals
      go_ret
      exact ⟨_, _, rfl, HO.out, HR.out, HG.out⟩
  · obtain rfl : k = 0 := by omega
    have hneg : i < 0 := by omega
    clear hi h0
    go_enter Try.func119, Try.ntmps119
    go_wp2_with (first
      | (go_at_call 145; refine (HN.out).mono ?_; rintro e w1 ⟨rfl, hR1, hg1⟩
         obtain ⟨a', c', w', hr, ho, hR, hg⟩ := take_core R U a n c l 0 w w1 HH.out hk hlim hR1 hg1
         have HR := Lib.hid hR; have HG := Lib.hid hg; have HO := Lib.hid ho; have HRUN := Lib.hid hr; clear hR hg ho hr hR1 hg1)
      | (at_builtin; refine Lib.wpList_append_run _ rfl _ _ 26 26 rfl (.slice none 0 0) (.slice a 0 c) (by rfl) (by rfl) _ _ HRUN.out ?_))
    all_goals
      go_ret
      exact ⟨_, _, rfl, HO.out, HR.out, HG.out⟩
theorem take_fail (R U : Nat) (a : Option Addr) (n c : Nat) (l : List Int) (i : Int) (w : World) (h : RdAt w R U a n c l) (hi : (n : Int) < i) :
    Calls Try.prog 119 #[.pointer (some ⟨R, 0, none⟩), .int .i64 i] w (FailPost U 20 w) := by
  have HN := Lib.hid (next_fail R U a n c l i w h hi); clear h
  have h0 : 0 ≤ i := by omega
  go_enter Try.func119, Try.ntmps119
  go_wp2_with (go_at_call 145; refine (HN.out).mono ?_; rintro e w' ⟨rfl, h1, h2, h3⟩)
  all_goals exact ⟨rfl, rfl, h1, h2, h3⟩
theorem rest_ok (R U : Nat) (a : Option Addr) (n c : Nat) (l : List Int) (w : World) (h : RdAt w R U a n c l) (hlim : n ≤ 140737488355328) :
    Calls Try.prog 109 #[.pointer (some ⟨R, 0, none⟩)] w (TakePost R U a n c l n w) := by
  have HL := Lib.hid (left_any R U a n c l w h)
  have HT := Lib.hid (take_ok R U a n c l n n w h (Nat.le_refl _) hlim (by omega)); clear h
  go_enter Try.func109, Try.ntmps109
  go_wp2_with (first
    | (go_at_call 108; refine (HL.out).mono ?_; rintro e w' ⟨rfl, rfl⟩)
    | (go_at_call 119; refine (HT.out).mono ?_; rintro e w' ⟨a', c', rfl, ho, hR, hg⟩; have HR := Lib.hid hR; have HG := Lib.hid hg; have HO := Lib.hid ho; clear hR hg ho))
  go_ret
  exact ⟨_, _, rfl, HO.out, HR.out, HG.out⟩
end Go.Proofs.Ytedhmoihlfjbdaa


/-
  wire.Reader: its state, and the contracts of live, Left and Fail.
-/
import Derived.Test.YtpannhbmelcpfaaStrRef2
import Derived.WalkLawsBesides
namespace Go.Proofs.Ytpannhbmelcpfaa
open Go.RowKit Go.Shelf
set_option linter.unusedVariables false
/-- Block R holds a Reader at work (its run is block U): the bytes that are left are l. -/
structure RdAt (W : World) (R U : Nat) (a : Option Addr) (n c : Nat) (l : List Int) : Prop where
  rd : W.heap[R]? = some (.cells #[.slice a n c, .pointer (some ⟨U, 0, Option.none⟩)] 191 (0, 0))
  run : W.heap[U]? = some (.cells #[.bool false, .int .i64 0] 168 (0, 0))
  ne : R ≠ U
  row : BAt W a n l
  cap : n ≤ c
  far : 0 < n → ∀ x, a = some x → x.block ≠ R ∧ x.block ≠ U
theorem RdAt.r0 {W : World} {R U : Nat} {a : Option Addr} {n c : Nat} {l : List Int} (h : RdAt W R U a n c l) : W.cell? ⟨R, 0, Option.none⟩ = some (.slice a n c) := by rw [cell_of_row W R 0 _ _ _ h.rd]; rfl
theorem RdAt.r1 {W : World} {R U : Nat} {a : Option Addr} {n c : Nat} {l : List Int} (h : RdAt W R U a n c l) : W.cell? ⟨R, 1, Option.none⟩ = some (.pointer (some ⟨U, 0, Option.none⟩)) := by rw [cell_of_row W R 1 _ _ _ h.rd]; rfl
theorem RdAt.u0 {W : World} {R U : Nat} {a : Option Addr} {n c : Nat} {l : List Int} (h : RdAt W R U a n c l) : W.cell? ⟨U, 0, Option.none⟩ = some (.bool false) := by rw [cell_of_row W U 0 _ _ _ h.run]; rfl
theorem RdAt.u1 {W : World} {R U : Nat} {a : Option Addr} {n c : Nat} {l : List Int} (h : RdAt W R U a n c l) : W.cell? ⟨U, 1, Option.none⟩ = some (.int .i64 0) := by rw [cell_of_row W U 1 _ _ _ h.run]; rfl
theorem RdAt.fr {W : World} {R U : Nat} {a : Option Addr} {n c : Nat} {l : List Int} (h : RdAt W R U a n c l) (o : Nat) : W.frozen? ⟨R, o, Option.none⟩ = false := frozen_of_row W R o _ _ h.rd
theorem RdAt.fu {W : World} {R U : Nat} {a : Option Addr} {n c : Nat} {l : List Int} (h : RdAt W R U a n c l) (o : Nat) : W.frozen? ⟨U, o, Option.none⟩ = false := frozen_of_row W U o _ _ h.run
theorem RdAt.ltR {W : World} {R U : Nat} {a : Option Addr} {n c : Nat} {l : List Int} (h : RdAt W R U a n c l) : R < W.heap.size := (Array.getElem?_eq_some_iff.1 h.rd).1
theorem RdAt.ltU {W : World} {R U : Nat} {a : Option Addr} {n c : Nat} {l : List Int} (h : RdAt W R U a n c l) : U < W.heap.size := (Array.getElem?_eq_some_iff.1 h.run).1
theorem RdAt.below {W W' : World} {R U : Nat} {a : Option Addr} {n c : Nat} {l : List Int} (h : RdAt W R U a n c l) (hb : Below W.heap.size W W') : RdAt W' R U a n c l :=
  ⟨(hb.block R h.ltR).trans h.rd, (hb.block U h.ltU).trans h.run, h.ne, h.row.below hb, h.cap, h.far⟩
/-- What a reader that ends panics with. -/
def failV (U : Nat) : Value := .iface 193 (.agg #[.pointer (some ⟨U, 0, none⟩)])
def FailPost (U : Nat) (f : Int) (w : World) (e : Ending) (w' : World) : Prop :=
  e = .panicked [{ v := failV U, recovered := false }] ∧ w'.heap[U]? = some (.cells #[.bool false, .int .i64 f] 168 (0, 0)) ∧ w.grownBy w' (some U) ∧ w.heap.size = w'.heap.size
theorem live_any (R U : Nat) (a : Option Addr) (n c : Nat) (l : List Int) (w : World) (h : RdAt w R U a n c l) :
    Calls Try.prog 127 #[.pointer (some ⟨R, 0, none⟩)] w (SameV (.bool true) w) := by
  have r1 := h.r1; have u0 := h.u0
  have hne : ∀ w, (binOp .neq 171 (.pointer (some ⟨U, 0, none⟩)) (.pointer none)).run Try.prog w = .ok (.bool true) w := fun w => by kernel_rfl
  go_enter Try.func127, Try.ntmps127
  go_wp2
  go_ret
  exact ⟨rfl, rfl⟩
theorem left_any (R U : Nat) (a : Option Addr) (n c : Nat) (l : List Int) (w : World) (h : RdAt w R U a n c l) :
    Calls Try.prog 109 #[.pointer (some ⟨R, 0, none⟩)] w (SameV (.int .i64 n) w) := by
  have r0 := h.r0
  have HL := Lib.hid (live_any R U a n c l w h)
  go_enter Try.func109, Try.ntmps109
  go_wp2_with (go_at_call 127; refine (HL.out).mono ?_; rintro e w' ⟨rfl, rfl⟩)
  go_ret
  exact ⟨rfl, rfl⟩
theorem fail_nz (R U : Nat) (a : Option Addr) (n c : Nat) (l : List Int) (f : Int) (w : World) (h : RdAt w R U a n c l) (hf : (f == 0) = false) :
    Calls Try.prog 94 #[.pointer (some ⟨R, 0, none⟩), .int .i64 f] w (FailPost U f w) := by
  have r1 := h.r1; have u1 := h.u1; have f1 := h.fu 1
  have HL := Lib.hid (live_any R U a n c l w h)
  have HH := Lib.hid h; clear h
  have hne : R ≠ U := HH.out.ne
  have r1' : ∀ v, (w.setCell ⟨U, 1, none⟩ v).cell? ⟨R, 1, none⟩ = some (.pointer (some ⟨U, 0, none⟩)) := fun v => (World.cell?_of_block (w := w) (a := ⟨R, 1, none⟩) (Below.heap_setCell w ⟨U, 1, none⟩ v R hne)).trans r1
  go_enter Try.func94, Try.ntmps94
  go_wp2_with (go_at_call 127; refine (HL.out).mono ?_; rintro e w' ⟨rfl, rfl⟩)
  exact ⟨rfl, rfl, heap_setCell_same w U 1 _ _ _ HH.out.run, ⟨rfl, rfl, rfl, by simp, fun k _ hk => Below.heap_setCell w _ _ k (fun e => hk (by rw [e]))⟩, by simp⟩
theorem fail_z (R U : Nat) (a : Option Addr) (n c : Nat) (l : List Int) (w : World) (h : RdAt w R U a n c l) :
    Calls Try.prog 94 #[.pointer (some ⟨R, 0, none⟩), .int .i64 0] w (FailPost U 21 w) := by
  have r1 := h.r1; have u1 := h.u1; have f1 := h.fu 1
  have HL := Lib.hid (live_any R U a n c l w h)
  have HH := Lib.hid h; clear h
  have hne : R ≠ U := HH.out.ne
  have r1' : ∀ v, (w.setCell ⟨U, 1, none⟩ v).cell? ⟨R, 1, none⟩ = some (.pointer (some ⟨U, 0, none⟩)) := fun v => (World.cell?_of_block (w := w) (a := ⟨R, 1, none⟩) (Below.heap_setCell w ⟨U, 1, none⟩ v R hne)).trans r1
  go_enter Try.func94, Try.ntmps94
  go_wp2_with (go_at_call 127; refine (HL.out).mono ?_; rintro e w' ⟨rfl, rfl⟩)
  exact ⟨rfl, rfl, heap_setCell_same w U 1 _ _ _ HH.out.run, ⟨rfl, rfl, rfl, by simp, fun k _ hk => Below.heap_setCell w _ _ k (fun e => hk (by rw [e]))⟩, by simp⟩
def failOf (f : Int) : Int := if f = 0 then 21 else f
theorem fail_any (R U : Nat) (a : Option Addr) (n c : Nat) (l : List Int) (f : Int) (w : World) (h : RdAt w R U a n c l) :
    Calls Try.prog 94 #[.pointer (some ⟨R, 0, none⟩), .int .i64 f] w (FailPost U (failOf f) w) := by
  unfold failOf
  by_cases hf : f = 0
  · rw [if_pos hf, hf]; exact fail_z R U a n c l w h
  · rw [if_neg hf]; exact fail_nz R U a n c l f w h (by simpa using hf)
/-- The rest of a slice, from k on. -/
def restA (a : Option Addr) (c k : Nat) : Option Addr := if c = k then a else a.map (·.add k)
theorem restA_bat {W : World} {a : Option Addr} {n c : Nat} {l : List Int} (h : BAt W a n l) (hc : n ≤ c) (k : Nat) (hk : k ≤ n) : BAt W (restA a c k) (n - k) (l.drop k) := by
  unfold restA
  by_cases e : k = n
  · subst e
    have hl := h.len
    exact ⟨by simp; omega, by omega, 0, 0, fun i hi => by omega⟩
  · rw [if_neg (by omega)]
    obtain ⟨b, o, hr⟩ := h.row
    obtain ⟨rfl, _⟩ := hr 0 (by omega)
    have := h.drop k hk
    simp only [Option.map_some]
    rwa [show (Addr.add ⟨b, o, Option.none⟩ k) = ⟨b, o + k, Option.none⟩ from by unfold Addr.add; split <;> simp_all]
theorem restA_far {a : Option Addr} {n c k R U : Nat} (hc : n ≤ c) (hk : k ≤ n) (hf : 0 < n → ∀ x, a = some x → x.block ≠ R ∧ x.block ≠ U) : 0 < n - k → ∀ x, restA a c k = some x → x.block ≠ R ∧ x.block ≠ U := fun h0 x hx => by
  unfold restA at hx
  rw [if_neg (by omega)] at hx
  cases a with
  | none => cases hx
  | some y =>
    simp only [Option.map_some, Option.some.injEq] at hx
    have := hf (by omega) y rfl
    rw [← hx]
    have e : (y.add k).block = y.block := by unfold Addr.add; split <;> rfl
    rw [e]; exact this
theorem run_rest (a : Option Addr) (n c k : Nat) (hk : k ≤ n) (hn : n ≤ 9223372036854775807) (w : World) : (Instr.slice 25 (.slice a n c) (some (.int .i64 (k : Int))) none none).run Try.prog w = .ok (.slice (restA a c k) (n - k) (c - k)) w := by
  have ht : Try.prog.underlying 25 = some (.slice (Try.prog.elem 25)) := by kernel_rfl
  have hs : (sizeOf (Try.prog.elem 25)).run Try.prog w = .ok 1 w := by kernel_rfl
  rw [run_slice_l w 25 a n c ht .i64 (k : Int) (by omega) (by omega), Int.toNat_natCast, hs]
  simp only [sliced, restA, Result.andThen, Nat.mul_one]
/-- What a read of k bytes leaves: the Reader goes on behind them. -/
def TookPost (R U : Nat) (a : Option Addr) (n c : Nat) (l : List Int) (k : Nat) (v : Value) (w : World) (e : Ending) (w' : World) : Prop :=
  e = .returned v ∧ RdAt w' R U (restA a c k) (n - k) (c - k) (l.drop k) ∧ w.grownBy w' (some R)
set_option maxHeartbeats 1000000 in
theorem next_ok (R U : Nat) (a : Option Addr) (n c : Nat) (l : List Int) (k : Nat) (w : World) (h : RdAt w R U a n c l) (hk : k ≤ n) :
    Calls Try.prog 108 #[.pointer (some ⟨R, 0, none⟩), .int .i64 k] w (TookPost R U a n c l k (.slice a k c) w) := by
  have r0 := h.r0; have f0 := h.fr 0
  have hz := h.row.lim
  have HL := Lib.hid (left_any R U a n c l w h)
  have hgt : ¬ (n : Int) < (k : Int) := by omega
  have hc0 : (0 : Int) ≤ (k : Int) := by omega
  have hc1 : (k : Int) ≤ (c : Int) := by have := h.cap; omega
  have hsl := run_rest a n c k hk (by omega)
  have HH := Lib.hid h; clear h
  go_enter Try.func108, Try.ntmps108
  go_wp2_with (go_at_call 109; refine (HL.out).mono ?_; rintro e w' ⟨rfl, rfl⟩)
  go_ret
  have hbw : w.grownBy (w.setCell ⟨R, 0, none⟩ (.slice (restA a c k) (n - k) (c - k))) (some R) := ⟨rfl, rfl, rfl, by simp, fun j _ hj => Below.heap_setCell w _ _ j (fun e => hj (by rw [e]))⟩
  refine ⟨rfl, ⟨heap_setCell_same w R 0 _ _ _ HH.out.rd, (hbw.block U HH.out.ltU (fun e => HH.out.ne (by simpa using e.symm))).trans HH.out.run, HH.out.ne, ?_, by have := HH.out.cap; omega, restA_far HH.out.cap hk HH.out.far⟩, hbw⟩
  refine (restA_bat HH.out.row HH.out.cap k hk).same hbw.size fun x h0 hx hl => hbw.block x.block hl (fun e => ?_)
  exact (restA_far HH.out.cap hk HH.out.far h0 x hx).1 (by simpa using e)
theorem next_fail (R U : Nat) (a : Option Addr) (n c : Nat) (l : List Int) (k : Int) (w : World) (h : RdAt w R U a n c l) (hk : (n : Int) < k) :
    Calls Try.prog 108 #[.pointer (some ⟨R, 0, none⟩), .int .i64 k] w (FailPost U 20 w) := by
  have HL := Lib.hid (left_any R U a n c l w h)
  have HF := Lib.hid (fail_nz R U a n c l 20 w h rfl)
  clear h
  go_enter Try.func108, Try.ntmps108
  go_wp2_with (first
    | (go_at_call 109; refine (HL.out).mono ?_; rintro e w' ⟨rfl, rfl⟩)
    | (go_at_call 94; refine (HF.out).mono ?_; rintro e w' ⟨rfl, h1, h2, h3⟩))
  exact ⟨rfl, rfl, h1, h2, h3⟩
end Go.Proofs.Ytpannhbmelcpfaa


/-
  A packet in memory; Size.
-/
import Derived.Test.YtpannhbmelcpfaaWireGot
namespace Go.Proofs.Ytpannhbmelcpfaa
open Go.RowKit Go.Shelf
set_option linter.unusedVariables false
structure Pk where
  marker : Bool
  pt : Int
  seq : Int
  ts : Int
  ssrc : Int
  csrc : List Int
  hasExt : Bool
  profile : Int
  ext : List Int
  payload : List Int
  pad : List Int
/-- Where a packet's slices lie. -/
structure Pl where
  ac : Option Addr
  nc : Nat
  cc : Nat
  ae : Option Addr
  ne : Nat
  ce : Nat
  ap : Option Addr
  np : Nat
  cp : Nat
  ad : Option Addr
  nd : Nat
  cd : Nat
def pkc (p : Pk) (s : Pl) : Array Value := #[.bool p.marker, .int .i64 p.pt, .int .u16 p.seq, .int .u32 p.ts, .int .u32 p.ssrc, .slice s.ac s.nc s.cc, .bool p.hasExt, .int .u16 p.profile, .slice s.ae s.ne s.ce, .slice s.ap s.np s.cp, .slice s.ad s.nd s.cd]
/-- Numbers of four bytes in memory. -/
def LgAt (W : World) (a : Option Addr) (n : Nat) (l : List Int) : Prop :=
  l.length = n ∧ ∃ b o, ∀ i, i < n → a = some ⟨b, o, none⟩ ∧ b < W.heap.size ∧ W.cell? ⟨b, o + i, none⟩ = some (.int .u32 (l.getD i 0)) ∧ 0 ≤ l.getD i 0 ∧ l.getD i 0 < 4294967296
theorem LgAt.below {W W' : World} {a : Option Addr} {n : Nat} {l : List Int} (h : LgAt W a n l) (hb : Below W.heap.size W W') : LgAt W' a n l := by
  obtain ⟨hl, b, o, hr⟩ := h
  refine ⟨hl, b, o, fun i hi => ?_⟩
  obtain ⟨h1, h2, h3, h4⟩ := hr i hi
  exact ⟨h1, by have := hb.size; omega, (hb.cell (p := ⟨b, o + i, none⟩) h2).trans h3, h4⟩
structure PkAt (W : World) (p : Pk) (s : Pl) : Prop where
  csrc : LgAt W s.ac s.nc p.csrc
  ext : BAt W s.ae s.ne p.ext
  pay : BAt W s.ap s.np p.payload
  pad : BAt W s.ad s.nd p.pad
  seq : 0 ≤ p.seq ∧ p.seq < 65536
  ts : 0 ≤ p.ts ∧ p.ts < 4294967296
  ssrc : 0 ≤ p.ssrc ∧ p.ssrc < 4294967296
  prof : 0 ≤ p.profile ∧ p.profile < 65536
theorem PkAt.below {W W' : World} {p : Pk} {s : Pl} (h : PkAt W p s) (hb : Below W.heap.size W W') : PkAt W' p s :=
  ⟨h.csrc.below hb, h.ext.below hb, h.pay.below hb, h.pad.below hb, h.seq, h.ts, h.ssrc, h.prof⟩
/-- Few bytes and numbers (more than any packet of the laws has). -/
def Sm (s : Pl) : Prop := s.nc ≤ 100000 ∧ s.ne ≤ 100000 ∧ s.np ≤ 100000 ∧ s.nd ≤ 100000
def sz (p : Pk) (s : Pl) : Nat := 12 + 4 * s.nc + s.np + s.nd + (if p.hasExt then 4 + s.ne else 0)
def ValB (v : Value) (w : World) (e : Ending) (w' : World) : Prop := e = .returned v ∧ Below w.heap.size w w'
set_option maxHeartbeats 2000000 in
set_option maxRecDepth 100000 in
theorem size_any (p : Pk) (s : Pl) (w : World) (hs : Sm s) : Calls Try.prog 13 #[.agg (pkc p s)] w (ValB (.int .i64 (sz p s : Nat)) w) := by
  obtain ⟨m, pt, sq, ts, ss, cs, h, pr, ex, py, pd⟩ := p
  obtain ⟨ac, nc, cc, ae, ne, ce, ap, np, cp, ad, nd, cd⟩ := s
  obtain ⟨h1, h2, h3, h4⟩ := hs
  simp only [pkc] at *
  have e : ((sz ⟨m, pt, sq, ts, ss, cs, h, pr, ex, py, pd⟩ ⟨ac, nc, cc, ae, ne, ce, ap, np, cp, ad, nd, cd⟩ : Nat) : Int) = 12 + 4 * nc + np + nd + (if h then 4 + (ne : Int) else 0) := by
    unfold sz; cases h <;> simp <;> omega
  rw [e]
  clear e
  cases h <;> simp only [if_true, Bool.false_eq_true, if_false, Int.add_zero]
  all_goals
    go_enter Try.func13, Try.ntmps13
    go_wp2
    go_ret
    refine ⟨?_, (Below.refl _ w).alloc (Nat.le_refl _) _⟩
    first | rfl | exact congrArg (fun z => Ending.returned (.int .i64 z)) (show 12 + 4 * (nc : Int) + np + nd + 4 + ne = 12 + 4 * (nc : Int) + np + nd + (4 + ne) by omega)
set_option maxHeartbeats 2000000 in
set_option maxRecDepth 100000 in
theorem rsize_any (p : Pk) (s : Pl) (w : World) (hs : Sm s) : Calls Try.prog 14 #[.agg (pkc p s)] w (ValB (.int .i64 (sz p s : Nat)) w) := by
  obtain ⟨m, pt, sq, ts, ss, cs, h, pr, ex, py, pd⟩ := p
  obtain ⟨ac, nc, cc, ae, ne, ce, ap, np, cp, ad, nd, cd⟩ := s
  obtain ⟨h1, h2, h3, h4⟩ := hs
  simp only [pkc] at *
  have e : ((sz ⟨m, pt, sq, ts, ss, cs, h, pr, ex, py, pd⟩ ⟨ac, nc, cc, ae, ne, ce, ap, np, cp, ad, nd, cd⟩ : Nat) : Int) = 12 + 4 * nc + np + nd + (if h then 4 + (ne : Int) else 0) := by
    unfold sz; cases h <;> simp <;> omega
  rw [e]
  clear e
  cases h <;> simp only [if_true, Bool.false_eq_true, if_false, Int.add_zero]
  all_goals
    go_enter Try.func14, Try.ntmps14
    go_wp2
    go_ret
    refine ⟨?_, (Below.refl _ w).alloc (Nat.le_refl _) _⟩
    first | rfl | exact congrArg (fun z => Ending.returned (.int .i64 z)) (show 12 + 4 * (nc : Int) + np + nd + 4 + ne = 12 + 4 * (nc : Int) + np + nd + (4 + ne) by omega)
def few (s : Pl) : Bool := decide (s.nc ≤ 30) && (decide (s.ne ≤ 2000) && (decide (s.np ≤ 2000) && decide (s.nd ≤ 400)))
set_option maxHeartbeats 2000000 in
set_option maxRecDepth 100000 in
theorem few_any (p : Pk) (s : Pl) (w : World) : Calls Try.prog 9 #[.agg (pkc p s)] w (ValB (.bool (few s)) w) := by
  obtain ⟨m, pt, sq, ts, ss, cs, h, pr, ex, py, pd⟩ := p
  obtain ⟨ac, nc, cc, ae, ne, ce, ap, np, cp, ad, nd, cd⟩ := s
  simp only [pkc, few] at *
  have e1 : decide (nc ≤ 30) = decide ((nc : Int) ≤ 30) := by apply decide_eq_decide.2; omega
  have e2 : decide (ne ≤ 2000) = decide ((ne : Int) ≤ 2000) := by apply decide_eq_decide.2; omega
  have e3 : decide (np ≤ 2000) = decide ((np : Int) ≤ 2000) := by apply decide_eq_decide.2; omega
  have e4 : decide (nd ≤ 400) = decide ((nd : Int) ≤ 400) := by apply decide_eq_decide.2; omega
  rw [e1, e2, e3, e4]
  clear e1 e2 e3 e4
  by_cases h1 : (nc : Int) ≤ 30
  · by_cases h2 : (ne : Int) ≤ 2000
    · by_cases h3 : (np : Int) ≤ 2000
      · by_cases h4 : (nd : Int) ≤ 400
        all_goals
          go_enter Try.func9, Try.ntmps9
          go_wp2
          go_ret
          exact ⟨by first | (simp [*]; done) | (simp [*]; omega), (Below.refl _ w).alloc (Nat.le_refl _) _⟩
      · go_enter Try.func9, Try.ntmps9
        go_wp2
        go_ret
        exact ⟨by first | (simp [*]; done) | (simp [*]; omega), (Below.refl _ w).alloc (Nat.le_refl _) _⟩
    · go_enter Try.func9, Try.ntmps9
      go_wp2
      go_ret
      exact ⟨by first | (simp [*]; done) | (simp [*]; omega), (Below.refl _ w).alloc (Nat.le_refl _) _⟩
  · go_enter Try.func9, Try.ntmps9
    go_wp2
    go_ret
    exact ⟨by first | (simp [*]; done) | (simp [*]; omega), (Below.refl _ w).alloc (Nat.le_refl _) _⟩
theorem bit_any (b : Bool) (v : Int) (w : World) : Calls Try.prog 74 #[.bool b, .int .i64 v] w (SameV (.int .i64 (if b then v else 0)) w) := by
  cases b
  all_goals
    go_enter Try.func74, Try.ntmps74
    go_wp2
    go_ret
    exact ⟨rfl, rfl⟩
/-- The padding keeps its rule: none, or its last byte is its length. -/
def vpad (l : List Int) (n : Nat) : Bool := decide (n = 0) || decide (l.getD (n - 1) 0 = n)
theorem vpad_any (a : Option Addr) (n c : Nat) (l : List Int) (w : World) (hb : BAt w a n l) :
    Calls Try.prog 40 #[.slice a n c] w (SameV (.bool (vpad l n)) w) := by
  by_cases h0 : n = 0
  · subst h0
    go_enter Try.func40, Try.ntmps40
    go_wp2
    go_ret
    exact ⟨rfl, rfl⟩
  · have hz : ((n : Int) == 0) = false := by rw [beq_eq_false_iff_ne]; omega
    have hlim := hb.lim
    obtain ⟨b, o, hr⟩ := hb.row
    obtain ⟨rfl, _, d, hd⟩ := hr (n - 1) (by omega)
    have hv : vpad l n = (l.getD (n - 1) 0 == (n : Int)) := by
      unfold vpad; simp [h0]; rfl
    rw [hv]
    have hi : (n : Int) - 1 = ((n - 1 : Nat) : Int) := by omega
    have hi2 : ((n - 1 : Nat) : Int) < (n : Int) := by omega
    clear hr hv
    generalize l.getD (n - 1) 0 = x at d hd ⊢
    generalize n - 1 = k at d hi hi2
    go_enter Try.func40, Try.ntmps40
    go_wp2
    go_ret
    exact ⟨rfl, rfl⟩
/-- The extension keeps its rule. -/
def vext (p : Pk) (s : Pl) : Bool := if p.hasExt then decide (s.ne % 4 = 0) else decide (s.ne = 0) && decide (p.profile = 0)
set_option maxHeartbeats 2000000 in
set_option maxRecDepth 100000 in
theorem vext_any (p : Pk) (s : Pl) (w : World) (hs : Sm s) : Calls Try.prog 39 #[.agg (pkc p s)] w (ValB (.bool (vext p s)) w) := by
  obtain ⟨m, pt, sq, ts, ss, cs, h, pr, ex, py, pd⟩ := p
  obtain ⟨ac, nc, cc, ae, ne, ce, ap, np, cp, ad, nd, cd⟩ := s
  obtain ⟨h1, h2, h3, h4⟩ := hs
  simp only [pkc, vext] at *
  cases h <;> simp only [if_true, Bool.false_eq_true, if_false]
  · have e1 : decide (ne = 0) = ((ne : Int) == 0) := by rw [Bool.eq_iff_iff]; simp
    rw [e1]
    have e2 : decide (pr = 0) = (pr == 0) := rfl
    rw [e2]
    by_cases hz : (ne : Int) = 0
    · have hz' : ((ne : Int) == 0) = true := by rw [beq_iff_eq]; exact hz
      rw [hz']
      clear e1 e2 hz
      go_enter Try.func39, Try.ntmps39
      go_wp2
      go_ret
      exact ⟨by simp, (Below.refl _ w).alloc (Nat.le_refl _) _⟩
    · have hz' : ((ne : Int) == 0) = false := by rw [beq_eq_false_iff_ne]; exact hz
      rw [hz']
      clear e1 e2 hz
      go_enter Try.func39, Try.ntmps39
      go_wp2
      go_ret
      exact ⟨by simp, (Below.refl _ w).alloc (Nat.le_refl _) _⟩
  · have er : ((ne : Int)).tmod 4 = ((ne % 4 : Nat) : Int) := by rw [Int.tmod_eq_emod_of_nonneg (by omega)]; simp
    have eq : ((ne : Int)).tdiv 4 = ((ne / 4 : Nat) : Int) := by rw [Int.tdiv_eq_ediv_of_nonneg (by omega)]; simp
    have eq2 : ((ne / 4 : Nat) : Int) ≤ 65535 := by omega
    have e1 : decide (ne % 4 = 0) = (((ne % 4 : Nat) : Int) == 0) := (decide_eq_decide.2 (by omega) : decide (ne % 4 = 0) = decide (((ne % 4 : Nat) : Int) = 0))
    rw [e1]
    generalize ne % 4 = r at er e1 ⊢
    generalize ne / 4 = q at eq eq2
    clear e1
    cases hz : ((r : Int) == 0)
    all_goals
      go_enter Try.func39, Try.ntmps39
      go_wp2
      go_ret
      exact ⟨by simp, (Below.refl _ w).alloc (Nat.le_refl _) _⟩
end Go.Proofs.Ytpannhbmelcpfaa

/-
  A packet in memory; Size.
-/
import Derived.Test.YtkoldfoliigifaaWireGot
namespace Go.Proofs.Ytkoldfoliigifaa
open Go.RowKit Go.Shelf
set_option linter.unusedVariables false
structure Pk where
  marker : Bool
  pt : Int
  seq : Int
  ts : Int
  ssrc : Int
  csrc : List Int
  hasExt : Bool
  profile : Int
  ext : List Int
  payload : List Int
  pad : List Int
/-- Where a packet's slices lie. -/
structure Pl where
  ac : Option Addr
  nc : Nat
  cc : Nat
  ae : Option Addr
  ne : Nat
  ce : Nat
  ap : Option Addr
  np : Nat
  cp : Nat
  ad : Option Addr
  nd : Nat
  cd : Nat
def pkc (p : Pk) (s : Pl) : Array Value := #[.bool p.marker, .int .i64 p.pt, .int .u16 p.seq, .int .u32 p.ts, .int .u32 p.ssrc, .slice s.ac s.nc s.cc, .bool p.hasExt, .int .u16 p.profile, .slice s.ae s.ne s.ce, .slice s.ap s.np s.cp, .slice s.ad s.nd s.cd]
/-- Numbers of four bytes in memory. -/
def LgAt (W : World) (a : Option Addr) (n : Nat) (l : List Int) : Prop :=
  l.length = n ∧ ∃ b o, ∀ i, i < n → a = some ⟨b, o, none⟩ ∧ b < W.heap.size ∧ W.cell? ⟨b, o + i, none⟩ = some (.int .u32 (l.getD i 0)) ∧ 0 ≤ l.getD i 0 ∧ l.getD i 0 < 4294967296
theorem LgAt.below {W W' : World} {a : Option Addr} {n : Nat} {l : List Int} (h : LgAt W a n l) (hb : Below W.heap.size W W') : LgAt W' a n l := by
  obtain ⟨hl, b, o, hr⟩ := h
  refine ⟨hl, b, o, fun i hi => ?_⟩
  obtain ⟨h1, h2, h3, h4⟩ := hr i hi
  exact ⟨h1, by have := hb.size; omega, (hb.cell (p := ⟨b, o + i, none⟩) h2).trans h3, h4⟩
structure PkAt (W : World) (p : Pk) (s : Pl) : Prop where
  csrc : LgAt W s.ac s.nc p.csrc
  ext : BAt W s.ae s.ne p.ext
  pay : BAt W s.ap s.np p.payload
  pad : BAt W s.ad s.nd p.pad
  seq : 0 ≤ p.seq ∧ p.seq < 65536
  ts : 0 ≤ p.ts ∧ p.ts < 4294967296
  ssrc : 0 ≤ p.ssrc ∧ p.ssrc < 4294967296
  prof : 0 ≤ p.profile ∧ p.profile < 65536
theorem PkAt.below {W W' : World} {p : Pk} {s : Pl} (h : PkAt W p s) (hb : Below W.heap.size W W') : PkAt W' p s :=
  ⟨h.csrc.below hb, h.ext.below hb, h.pay.below hb, h.pad.below hb, h.seq, h.ts, h.ssrc, h.prof⟩
/-- Few bytes and numbers (more than any packet of the laws has). -/
def Sm (s : Pl) : Prop := s.nc ≤ 100000 ∧ s.ne ≤ 100000 ∧ s.np ≤ 100000 ∧ s.nd ≤ 100000
def sz (p : Pk) (s : Pl) : Nat := 12 + 4 * s.nc + s.np + s.nd + (if p.hasExt then 4 + s.ne else 0)
def ValB (v : Value) (w : World) (e : Ending) (w' : World) : Prop := e = .returned v ∧ Below w.heap.size w w'
set_option maxHeartbeats 2000000 in
set_option maxRecDepth 100000 in
theorem size_any (p : Pk) (s : Pl) (w : World) (hs : Sm s) : Calls Try.prog 9 #[.agg (pkc p s)] w (ValB (.int .i64 (sz p s : Nat)) w) := by
  obtain ⟨m, pt, sq, ts, ss, cs, h, pr, ex, py, pd⟩ := p
  obtain ⟨ac, nc, cc, ae, ne, ce, ap, np, cp, ad, nd, cd⟩ := s
  obtain ⟨h1, h2, h3, h4⟩ := hs
  simp only [pkc] at *
  have e : ((sz ⟨m, pt, sq, ts, ss, cs, h, pr, ex, py, pd⟩ ⟨ac, nc, cc, ae, ne, ce, ap, np, cp, ad, nd, cd⟩ : Nat) : Int) = 12 + 4 * nc + np + nd + (if h then 4 + (ne : Int) else 0) := by
    unfold sz; cases h <;> simp <;> omega
  rw [e]
  clear e
  cases h <;> simp only [if_true, Bool.false_eq_true, if_false, Int.add_zero]
  all_goals
    go_enter Try.func9, Try.ntmps9
    go_wp2
    go_ret
    refine ⟨?_, (Below.refl _ w).alloc (Nat.le_refl _) _⟩
    first | rfl | exact congrArg (fun z => Ending.returned (.int .i64 z)) (show 12 + 4 * (nc : Int) + np + nd + 4 + ne = 12 + 4 * (nc : Int) + np + nd + (4 + ne) by omega)
set_option maxHeartbeats 2000000 in
set_option maxRecDepth 100000 in
theorem rsize_any (p : Pk) (s : Pl) (w : World) (hs : Sm s) : Calls Try.prog 10 #[.agg (pkc p s)] w (ValB (.int .i64 (sz p s : Nat)) w) := by
  obtain ⟨m, pt, sq, ts, ss, cs, h, pr, ex, py, pd⟩ := p
  obtain ⟨ac, nc, cc, ae, ne, ce, ap, np, cp, ad, nd, cd⟩ := s
  obtain ⟨h1, h2, h3, h4⟩ := hs
  simp only [pkc] at *
  have e : ((sz ⟨m, pt, sq, ts, ss, cs, h, pr, ex, py, pd⟩ ⟨ac, nc, cc, ae, ne, ce, ap, np, cp, ad, nd, cd⟩ : Nat) : Int) = 12 + 4 * nc + np + nd + (if h then 4 + (ne : Int) else 0) := by
    unfold sz; cases h <;> simp <;> omega
  rw [e]
  clear e
  cases h <;> simp only [if_true, Bool.false_eq_true, if_false, Int.add_zero]
  all_goals
    go_enter Try.func10, Try.ntmps10
    go_wp2
    go_ret
    refine ⟨?_, (Below.refl _ w).alloc (Nat.le_refl _) _⟩
    first | rfl | exact congrArg (fun z => Ending.returned (.int .i64 z)) (show 12 + 4 * (nc : Int) + np + nd + 4 + ne = 12 + 4 * (nc : Int) + np + nd + (4 + ne) by omega)
def few (s : Pl) : Bool := decide (s.nc ≤ 30) && (decide (s.ne ≤ 2000) && (decide (s.np ≤ 2000) && decide (s.nd ≤ 400)))
set_option maxHeartbeats 2000000 in
set_option maxRecDepth 100000 in
theorem few_any (p : Pk) (s : Pl) (w : World) : Calls Try.prog 5 #[.agg (pkc p s)] w (ValB (.bool (few s)) w) := by
  obtain ⟨m, pt, sq, ts, ss, cs, h, pr, ex, py, pd⟩ := p
  obtain ⟨ac, nc, cc, ae, ne, ce, ap, np, cp, ad, nd, cd⟩ := s
  simp only [pkc, few] at *
  have e1 : decide (nc ≤ 30) = decide ((nc : Int) ≤ 30) := by apply decide_eq_decide.2; omega
  have e2 : decide (ne ≤ 2000) = decide ((ne : Int) ≤ 2000) := by apply decide_eq_decide.2; omega
  have e3 : decide (np ≤ 2000) = decide ((np : Int) ≤ 2000) := by apply decide_eq_decide.2; omega
  have e4 : decide (nd ≤ 400) = decide ((nd : Int) ≤ 400) := by apply decide_eq_decide.2; omega
  rw [e1, e2, e3, e4]
  clear e1 e2 e3 e4
  by_cases h1 : (nc : Int) ≤ 30
  · by_cases h2 : (ne : Int) ≤ 2000
    · by_cases h3 : (np : Int) ≤ 2000
      · by_cases h4 : (nd : Int) ≤ 400
        all_goals
          go_enter Try.func5, Try.ntmps5
          go_wp2
          go_ret
          exact ⟨by first | (simp [*]; done) | (simp [*]; omega), (Below.refl _ w).alloc (Nat.le_refl _) _⟩
      · go_enter Try.func5, Try.ntmps5
        go_wp2
        go_ret
        exact ⟨by first | (simp [*]; done) | (simp [*]; omega), (Below.refl _ w).alloc (Nat.le_refl _) _⟩
    · go_enter Try.func5, Try.ntmps5
      go_wp2
      go_ret
      exact ⟨by first | (simp [*]; done) | (simp [*]; omega), (Below.refl _ w).alloc (Nat.le_refl _) _⟩
  · go_enter Try.func5, Try.ntmps5
    go_wp2
    go_ret
    exact ⟨by first | (simp [*]; done) | (simp [*]; omega), (Below.refl _ w).alloc (Nat.le_refl _) _⟩
theorem bit_any (b : Bool) (v : Int) (w : World) : Calls Try.prog 36 #[.bool b, .int .i64 v] w (SameV (.int .i64 (if b then v else 0)) w) := by
  cases b
  all_goals
    go_enter Try.func36, Try.ntmps36
    go_wp2
    go_ret
    exact ⟨rfl, rfl⟩
/-- The padding keeps its rule: none, or its last byte is its length. -/
def vpad (l : List Int) (n : Nat) : Bool := decide (n = 0) || decide (l.getD (n - 1) 0 = n)
theorem vpad_any (a : Option Addr) (n c : Nat) (l : List Int) (w : World) (hb : BAt w a n l) :
    Calls Try.prog 20 #[.slice a n c] w (SameV (.bool (vpad l n)) w) := by
  by_cases h0 : n = 0
  · subst h0
    go_enter Try.func20, Try.ntmps20
    go_wp2
    go_ret
    exact ⟨rfl, rfl⟩
  · have hz : ((n : Int) == 0) = false := by rw [beq_eq_false_iff_ne]; omega
    have hlim := hb.lim
    obtain ⟨b, o, hr⟩ := hb.row
    obtain ⟨rfl, _, d, hd⟩ := hr (n - 1) (by omega)
    have hv : vpad l n = (l.getD (n - 1) 0 == (n : Int)) := by
      unfold vpad; simp [h0]; rfl
    rw [hv]
    have hi : (n : Int) - 1 = ((n - 1 : Nat) : Int) := by omega
    have hi2 : ((n - 1 : Nat) : Int) < (n : Int) := by omega
    clear hr hv
    generalize l.getD (n - 1) 0 = x at d hd ⊢
    generalize n - 1 = k at d hi hi2
    go_enter Try.func20, Try.ntmps20
    go_wp2
    go_ret
    exact ⟨rfl, rfl⟩
/-- The extension keeps its rule. -/
def vext (p : Pk) (s : Pl) : Bool := if p.hasExt then decide (s.ne % 4 = 0) else decide (s.ne = 0) && decide (p.profile = 0)
set_option maxHeartbeats 2000000 in
set_option maxRecDepth 100000 in
theorem vext_any (p : Pk) (s : Pl) (w : World) (hs : Sm s) : Calls Try.prog 19 #[.agg (pkc p s)] w (ValB (.bool (vext p s)) w) := by
  obtain ⟨m, pt, sq, ts, ss, cs, h, pr, ex, py, pd⟩ := p
  obtain ⟨ac, nc, cc, ae, ne, ce, ap, np, cp, ad, nd, cd⟩ := s
  obtain ⟨h1, h2, h3, h4⟩ := hs
  simp only [pkc, vext] at *
  cases h <;> simp only [if_true, Bool.false_eq_true, if_false]
  · have e1 : decide (ne = 0) = ((ne : Int) == 0) := by rw [Bool.eq_iff_iff]; simp
    rw [e1]
    have e2 : decide (pr = 0) = (pr == 0) := rfl
    rw [e2]
    by_cases hz : (ne : Int) = 0
    · have hz' : ((ne : Int) == 0) = true := by rw [beq_iff_eq]; exact hz
      rw [hz']
      clear e1 e2 hz
      go_enter Try.func19, Try.ntmps19
      go_wp2
      go_ret
      exact ⟨by simp, (Below.refl _ w).alloc (Nat.le_refl _) _⟩
    · have hz' : ((ne : Int) == 0) = false := by rw [beq_eq_false_iff_ne]; exact hz
      rw [hz']
      clear e1 e2 hz
      go_enter Try.func19, Try.ntmps19
      go_wp2
      go_ret
      exact ⟨by simp, (Below.refl _ w).alloc (Nat.le_refl _) _⟩
  · have er : ((ne : Int)).tmod 4 = ((ne % 4 : Nat) : Int) := by rw [Int.tmod_eq_emod_of_nonneg (by omega)]; simp
    have eq : ((ne : Int)).tdiv 4 = ((ne / 4 : Nat) : Int) := by rw [Int.tdiv_eq_ediv_of_nonneg (by omega)]; simp
    have eq2 : ((ne / 4 : Nat) : Int) ≤ 65535 := by omega
    have e1 : decide (ne % 4 = 0) = (((ne % 4 : Nat) : Int) == 0) := (decide_eq_decide.2 (by omega) : decide (ne % 4 = 0) = decide (((ne % 4 : Nat) : Int) = 0))
    rw [e1]
    generalize ne % 4 = r at er e1 ⊢
    generalize ne / 4 = q at eq eq2
    clear e1
    cases hz : ((r : Int) == 0)
    all_goals
      go_enter Try.func19, Try.ntmps19
      go_wp2
      go_ret
      exact ⟨by simp, (Below.refl _ w).alloc (Nat.le_refl _) _⟩
end Go.Proofs.Ytkoldfoliigifaa
namespace Go.Proofs.Ytkoldfoliigifaa
open Go.RowKit Go.Shelf
set_option linter.unusedVariables false
/-- A write leaves the bytes l in the Writer s. -/
def Wrote (w0 : World) (s : Nat) (l : List Int) (n : Nat) (e : Ending) (w' : World) : Prop := e = .returned (.tuple #[]) ∧ WriteSt w0 s l n w'
theorem st_byte {w0 W : World} {s n : Nat} {l : List Int} (hs : w0.heap.size ≤ s) (h : WriteSt w0 s l n W) (x : Int) (hx : 0 ≤ x) (hx' : x ≤ 9223372036854775807) (hn : n ≤ 100000000) :
    Calls Try.prog 35 #[.pointer (some ⟨s, 0, none⟩), .int .i64 x] W (Wrote w0 s (l ++ Big 1 x) (n + 1)) := by
  obtain ⟨a, c, h1, h2⟩ := h
  exact (wbyte_any s w0.heap.size a n c l x W h1 hx hx' (by omega) h2.size).mono fun e w' hp => WriteSt.step hs h1 h2 hp
theorem st_word {w0 W : World} {s n : Nat} {l : List Int} (hs : w0.heap.size ≤ s) (h : WriteSt w0 s l n W) (x : Int) (hx : 0 ≤ x ∧ x < 65536) (hn : n ≤ 100000000) :
    Calls Try.prog 37 #[.pointer (some ⟨s, 0, none⟩), .int .u16 x] W (Wrote w0 s (l ++ Big 2 x) (n + 2)) := by
  obtain ⟨a, c, h1, h2⟩ := h
  exact (wword_any s w0.heap.size a n c l x W h1 hx.1 hx.2 (by omega) h2.size).mono fun e w' hp => WriteSt.step hs h1 h2 hp
theorem st_long {w0 W : World} {s n : Nat} {l : List Int} (hs : w0.heap.size ≤ s) (h : WriteSt w0 s l n W) (x : Int) (hx : 0 ≤ x ∧ x < 4294967296) (hn : n ≤ 100000000) :
    Calls Try.prog 38 #[.pointer (some ⟨s, 0, none⟩), .int .u32 x] W (Wrote w0 s (l ++ Big 4 x) (n + 4)) := by
  obtain ⟨a, c, h1, h2⟩ := h
  exact (wlong_any s w0.heap.size a n c l x W h1 hx.1 hx.2 (by omega) h2.size).mono fun e w' hp => WriteSt.step hs h1 h2 hp
theorem BAt.far {w0 W : World} {a : Option Addr} {n : Nat} {l : List Int} (h : BAt w0 a n l) (hb : Below w0.heap.size w0 W) : BAt W a n l := h.below hb
theorem st_put {w0 W : World} {s n : Nat} {l : List Int} (hs : w0.heap.size ≤ s) (h : WriteSt w0 s l n W) (pa : Option Addr) (pn pc : Nat) (lp : List Int) (hb : BAt w0 pa pn lp) (hn : n ≤ 100000000) (hpn : pn ≤ 100000000) :
    Calls Try.prog 39 #[.pointer (some ⟨s, 0, none⟩), .slice pa pn pc] W (Wrote w0 s (l ++ lp) (n + pn)) := by
  obtain ⟨a, c, h1, h2⟩ := h
  exact (wput_any s w0.heap.size a n c l pa pn pc lp W h1 (hb.below h2) (by omega) h2.size).mono fun e w' hp => WriteSt.step hs h1 h2 hp
theorem st_done {w0 W : World} {s n : Nat} {l : List Int} (h : WriteSt w0 s l n W) (hn : n ≤ 100000000) :
    Calls Try.prog 40 #[.pointer (some ⟨s, 0, none⟩)] W (NewB n l W) := by
  obtain ⟨a, c, h1, h2⟩ := h
  exact wdone_any s w0.heap.size a n c l W h1 (by omega)
theorem WriteSt.drew {w0 W : World} {s n : Nat} {l : List Int} (h : WriteSt w0 s l n W) : WriteSt w0 s l n W.drew := by
  obtain ⟨a, c, h1, h2⟩ := h
  exact ⟨a, c, h1.below (Below.refl _ W).drew, h2.drew⟩
theorem WriteSt.low {w0 W : World} {s n : Nat} {l : List Int} (h : WriteSt w0 s l n W) : Below w0.heap.size w0 W := h.choose_spec.choose_spec.2
def longs (l : List Int) : List Int := (l.map (Big 4)).flatten
theorem longs_take (l : List Int) (i : Nat) (h : i < l.length) : longs (l.take (i + 1)) = longs (l.take i) ++ Big 4 (l.getD i 0) := by
  unfold longs
  rw [List.take_add_one, List.getElem?_eq_getElem h, List.map_append, List.flatten_append]
  simp only [Option.toList_some, List.map_cons, List.map_nil, List.flatten_cons, List.flatten_nil, List.append_nil]
  rw [List.getD_eq_getElem?_getD, List.getElem?_eq_getElem h]; rfl
def hd0 (p : Pk) (s : Pl) : Int := 128 + (if decide (0 < s.nd) = true then 32 else 0) + (if p.hasExt = true then 16 else 0) + s.nc
def hd1 (p : Pk) : Int := (if p.marker = true then 128 else 0) + p.pt
def enc (p : Pk) (s : Pl) : List Int :=
  Big 1 (hd0 p s) ++ (Big 1 (hd1 p) ++ (Big 2 p.seq ++ (Big 4 p.ts ++ (Big 4 p.ssrc ++ (longs p.csrc ++ ((if p.hasExt then Big 2 p.profile ++ (Big 2 ((s.ne / 4 : Nat) : Int) ++ p.ext) else []) ++ (p.payload ++ p.pad)))))))
theorem or_hd0 (b h : Bool) (n : Nat) (hn : n ≤ 15) : bits .or .i64 (bits .or .i64 (bits .or .i64 128 (if b = true then 32 else 0)) (if h = true then 16 else 0)) (n : Int) = 128 + (if b = true then 32 else 0) + (if h = true then 16 else 0) + n := by
  have : ∀ (b h : Bool) (n : Fin 16), bits .or .i64 (bits .or .i64 (bits .or .i64 128 (if b = true then 32 else 0)) (if h = true then 16 else 0)) ((n : Nat) : Int) = 128 + (if b = true then 32 else 0) + (if h = true then 16 else 0) + ((n : Nat) : Int) := by decide
  exact this b h ⟨n, by omega⟩
theorem or_hd1 (m : Bool) (pt : Int) (h0 : 0 ≤ pt) (h1 : pt ≤ 127) : bits .or .i64 (if m = true then 128 else 0) pt = (if m = true then 128 else 0) + pt := by
  have : ∀ (m : Bool) (n : Fin 128), bits .or .i64 (if m = true then 128 else 0) ((n : Nat) : Int) = (if m = true then 128 else 0) + ((n : Nat) : Int) := by decide
  obtain ⟨n, rfl⟩ := Int.eq_ofNat_of_zero_le h0
  exact this m ⟨n, by omega⟩
set_option maxHeartbeats 4000000 in
set_option maxRecDepth 100000 in
theorem encode_any (p : Pk) (s : Pl) (w : World) (hp : PkAt w p s) (hs : Sm s) (hpt : 0 ≤ p.pt ∧ p.pt ≤ 127) (hnc : s.nc ≤ 15) (N : Nat) (hN : sz p s = N) :
    Calls Try.prog 21 #[.agg (pkc p s)] w (NewB N (enc p s) w) := by
  obtain ⟨m, pt, sq, ts, ss, cs, h, pr, ex, py, pd⟩ := p
  obtain ⟨ac, nc, cc, ae, ne, ce, ap, np, cp, ad, nd, cd⟩ := s
  obtain ⟨s1, s2, s3, s4⟩ := hs
  obtain ⟨hcs, hex, hpy, hpd, hsq, hts, hss, hpr⟩ := hp
  simp only [pkc] at *
  have hV := or_hd0 (decide (0 < nd)) h nc hnc
  have hV1 := or_hd1 m pt hpt.1 hpt.2
  obtain ⟨w0, hw0⟩ : ∃ w0, w.alloc (.cells #[.bool m, .int .i64 pt, .int .u16 sq, .int .u32 ts, .int .u32 ss, .slice ac nc cc, .bool h, .int .u16 pr, .slice ae ne ce, .slice ap np cp, .slice ad nd cd] 27) = w0 := ⟨_, rfl⟩
  have hz0 : w0.heap.size = w.heap.size + 1 := by rw [← hw0]; simp
  have hB0 : Below w.heap.size w w0 := by rw [← hw0]; exact (Below.refl _ w).alloc (Nat.le_refl _) _
  have hrow : w0.heap[w.heap.size]? = some (.cells #[.bool m, .int .i64 pt, .int .u16 sq, .int .u32 ts, .int .u32 ss, .slice ac nc cc, .bool h, .int .u16 pr, .slice ae ne ce, .slice ap np cp, .slice ad nd cd] 27 (0, 0)) := by rw [← hw0]; exact lit_new rfl
  have CELL : ∀ W, Below w0.heap.size w0 W → W.heap[w.heap.size]? = some (.cells #[.bool m, .int .i64 pt, .int .u16 sq, .int .u32 ts, .int .u32 ss, .slice ac nc cc, .bool h, .int .u16 pr, .slice ae ne ce, .slice ap np cp, .slice ad nd cd] 27 (0, 0)) := fun W hB => (hB.block _ (by omega)).trans hrow
  have MK1 : Hid (∀ W, Below w0.heap.size w0 W → W.cell? ⟨w.heap.size, 10, none⟩ = some (.slice ad nd cd) ∧ W.cell? ⟨w.heap.size, 6, none⟩ = some (.bool h) ∧ W.cell? ⟨w.heap.size, 5, none⟩ = some (.slice ac nc cc) ∧ Below w0.heap.size w0 W) := Lib.hid fun W hB => ⟨by rw [cell_of_row W _ 10 _ _ _ (CELL W hB)]; rfl, by rw [cell_of_row W _ 6 _ _ _ (CELL W hB)]; rfl, by rw [cell_of_row W _ 5 _ _ _ (CELL W hB)]; rfl, hB⟩
  have DR1 : Hid (∀ W, (W.cell? ⟨w.heap.size, 10, none⟩ = some (.slice ad nd cd) ∧ W.cell? ⟨w.heap.size, 6, none⟩ = some (.bool h) ∧ W.cell? ⟨w.heap.size, 5, none⟩ = some (.slice ac nc cc) ∧ Below w0.heap.size w0 W) → W.drew.cell? ⟨w.heap.size, 10, none⟩ = some (.slice ad nd cd) ∧ W.drew.cell? ⟨w.heap.size, 6, none⟩ = some (.bool h) ∧ W.drew.cell? ⟨w.heap.size, 5, none⟩ = some (.slice ac nc cc) ∧ Below w0.heap.size w0 W.drew) := Lib.hid fun W h => MK1.out _ h.2.2.2.drew
  have HCS := Lib.hid (hcs.below hB0); have HEX := Lib.hid (hex.below hB0); have HPY := Lib.hid (hpy.below hB0); have HPD := Lib.hid (hpd.below hB0); have HB0 := Lib.hid hB0; have HN := Lib.hid hN
  have HW1 : Hid (WriteSt w0 w0.heap.size [] 0 (w0.alloc (.cells #[.slice none 0 0] 63))) := Lib.hid ⟨none, 0, ⟨heap_alloc_new w0 _, ⟨World.ownsRow_nil _ _ _ _, Str.ok_nil⟩, fun x hx => by cases hx⟩, (Below.refl _ w0).alloc (Nat.le_refl _) _⟩
  clear hcs hex hpy hpd hB0 hrow hN
  have MK2 : Hid (∀ W, Below w0.heap.size w0 W → W.cell? ⟨w.heap.size, 0, none⟩ = some (.bool m) ∧ W.cell? ⟨w.heap.size, 1, none⟩ = some (.int .i64 pt) ∧ Below w0.heap.size w0 W) := Lib.hid fun W hB => ⟨by rw [cell_of_row W _ 0 _ _ _ (CELL W hB)]; rfl, by rw [cell_of_row W _ 1 _ _ _ (CELL W hB)]; rfl, hB⟩
  have DR2 : Hid (∀ W, (W.cell? ⟨w.heap.size, 0, none⟩ = some (.bool m) ∧ W.cell? ⟨w.heap.size, 1, none⟩ = some (.int .i64 pt) ∧ Below w0.heap.size w0 W) → W.drew.cell? ⟨w.heap.size, 0, none⟩ = some (.bool m) ∧ W.drew.cell? ⟨w.heap.size, 1, none⟩ = some (.int .i64 pt) ∧ Below w0.heap.size w0 W.drew) := Lib.hid fun W h => MK2.out _ h.2.2.drew
  have HCELL := Lib.hid CELL; clear CELL
  have HZ0 := Lib.hid hz0; clear hz0
  obtain ⟨X1, hX1⟩ : ∃ X, (if decide (0 < nd) = true then (32 : Int) else 0) = X := ⟨_, rfl⟩
  obtain ⟨X2, hX2⟩ : ∃ X, (if h = true then (16 : Int) else 0) = X := ⟨_, rfl⟩
  obtain ⟨X3, hX3⟩ : ∃ X, (if m = true then (128 : Int) else 0) = X := ⟨_, rfl⟩
  have BIT1 : Hid (∀ W, Calls Try.prog 36 #[.bool (decide (0 < nd)), .int .i64 32] W (SameV (.int .i64 X1) W)) := Lib.hid fun W => by rw [← hX1]; exact bit_any _ _ W
  have BIT2 : Hid (∀ W, Calls Try.prog 36 #[.bool h, .int .i64 16] W (SameV (.int .i64 X2) W)) := Lib.hid fun W => by rw [← hX2]; exact bit_any _ _ W
  have BIT3 : Hid (∀ W, Calls Try.prog 36 #[.bool m, .int .i64 128] W (SameV (.int .i64 X3) W)) := Lib.hid fun W => by rw [← hX3]; exact bit_any _ _ W
  have hXb : (X1 = 0 ∨ X1 = 32) ∧ (X2 = 0 ∨ X2 = 16) ∧ (X3 = 0 ∨ X3 = 128) := by
    rw [← hX1, ← hX2, ← hX3]
    refine ⟨?_, ?_, ?_⟩ <;> split <;> simp
  rw [hX1, hX2] at hV
  rw [hX3] at hV1
  obtain ⟨V, hVV⟩ : ∃ V, 128 + X1 + X2 + (nc : Int) = V := ⟨_, rfl⟩
  rw [hVV] at hV
  obtain ⟨V1, hVV1⟩ : ∃ V, X3 + pt = V := ⟨_, rfl⟩
  rw [hVV1] at hV1
  have hVb : 0 ≤ V ∧ V ≤ 255 := by omega
  have hVb1 : 0 ≤ V1 ∧ V1 ≤ 255 := by omega
  have HVV := Lib.hid hVV; have HVV1 := Lib.hid hVV1; have HX1 := Lib.hid hX1; have HX2 := Lib.hid hX2; have HX3 := Lib.hid hX3; have HXB := Lib.hid hXb; clear hVV hVV1 hX1 hX2 hX3 hXb
  go_enter Try.func21, Try.ntmps21
  go_wp2_with fail
  have hcur := MK1.out _ HW1.out.low
  go_region_held3 (fun W => W.cell? ⟨w.heap.size, 10, none⟩ = some (.slice ad nd cd) ∧ W.cell? ⟨w.heap.size, 6, none⟩ = some (.bool h) ∧ W.cell? ⟨w.heap.size, 5, none⟩ = some (.slice ac nc cc) ∧ Below w0.heap.size w0 W) (first | assumption | exact DR1.out _ (by assumption) | exact MK1.out _ hB)
    (first
      | (go_at_call_of 36 (Value.int IntKind.i64 32); refine (BIT1.out _).mono ?_; rintro e w2 ⟨rfl, rfl⟩)
      | (go_at_call_of 36 (Value.int IntKind.i64 16); refine (BIT2.out _).mono ?_; rintro e w2 ⟨rfl, rfl⟩)
      | (go_at_call 35; refine (st_byte (Nat.le_refl _) HW1.out.drew V hVb.1 (by omega) (by omega)).mono ?_; rintro e w2 ⟨rfl, hW2⟩; have hB := hW2.low))
  have HW2 := Lib.hid hW2; clear hcur hB hW2 MK1 DR1 BIT1 BIT2 HW1
  go_wp2_with fail
  have hcur := MK2.out _ HW2.out.low
  go_region_held3 (fun W => W.cell? ⟨w.heap.size, 0, none⟩ = some (.bool m) ∧ W.cell? ⟨w.heap.size, 1, none⟩ = some (.int .i64 pt) ∧ Below w0.heap.size w0 W) (first | assumption | exact DR2.out _ (by assumption) | exact MK2.out _ hB)
    (first
      | (go_at_call_of 36 (Value.int IntKind.i64 128); refine (BIT3.out _).mono ?_; rintro e w3 ⟨rfl, rfl⟩)
      | (go_at_call 35; refine (st_byte (Nat.le_refl _) HW2.out.drew V1 hVb1.1 (by omega) (by omega)).mono ?_; rintro e w3 ⟨rfl, hW3⟩; have hB := hW3.low))
  have HW3 := Lib.hid hW3; clear hcur hB hW3 MK2 DR2 BIT3 HW2
  have c2 : w3.cell? ⟨w.heap.size, 2, none⟩ = some (.int .u16 sq) := by rw [cell_of_row w3 _ 2 _ _ _ (HCELL.out w3 HW3.out.low)]; rfl
  go_wp2_with fail
  refine (st_word (Nat.le_refl _) HW3.out sq hsq (by omega)).mono ?_
  rintro e w4 ⟨rfl, hW4⟩
  have HW4 := Lib.hid hW4; clear hW4 HW3 c2
  have c3 : w4.cell? ⟨w.heap.size, 3, none⟩ = some (.int .u32 ts) := by rw [cell_of_row w4 _ 3 _ _ _ (HCELL.out w4 HW4.out.low)]; rfl
  go_wp2_with fail
  refine (st_long (Nat.le_refl _) HW4.out ts hts (by omega)).mono ?_
  rintro e w5 ⟨rfl, hW5⟩
  have HW5 := Lib.hid hW5; clear hW5 HW4 c3
  have c4 : w5.cell? ⟨w.heap.size, 4, none⟩ = some (.int .u32 ss) := by rw [cell_of_row w5 _ 4 _ _ _ (HCELL.out w5 HW5.out.low)]; rfl
  go_wp2_with fail
  refine (st_long (Nat.le_refl _) HW5.out ss hss (by omega)).mono ?_
  rintro e w6 ⟨rfl, hW6⟩
  have HW6 := Lib.hid hW6; clear hW6 HW5 c4
  have c5 : w6.cell? ⟨w.heap.size, 5, none⟩ = some (.slice ac nc cc) := by rw [cell_of_row w6 _ 5 _ _ _ (HCELL.out w6 HW6.out.low)]; rfl
  go_wp2_with fail
  obtain ⟨l6, hl6⟩ : ∃ l6, ([] ++ Big 1 V ++ Big 1 V1 ++ Big 2 sq ++ Big 4 ts ++ Big 4 ss) = l6 := ⟨_, rfl⟩
  rw [hl6] at HW6
  have HL6 := Lib.hid hl6; clear hl6 c5
  go_loopw [40] (fun iv wr => ∃ (i n' : Nat), i ≤ nc ∧ n' = 12 + 4 * i ∧ iv = .int .i64 i ∧ Hid (WriteSt w0 w0.heap.size (l6 ++ longs (cs.take i)) n' wr)) (fun iv _ => nc - (intOf iv).toNat)
  case atStart => exact ⟨0, 12, Nat.zero_le _, rfl, rfl, Lib.hid (by have := HW6.out; simpa [longs] using this)⟩
  case round =>
    obtain ⟨i, n', hi, hn', rfl, HQ⟩ := hrel
    clear HW6
    by_cases hlt : i < nc
    · have hltz : (i : Int) < (nc : Int) := by omega
      obtain ⟨hlc, b, o, hr⟩ := HCS.out
      obtain ⟨rfl, hbl, g0, hx0, hx1⟩ := hr i hlt
      have g0 : wr.cell? ⟨b, o + i, none⟩ = some (.int .u32 (cs.getD i 0)) := (HQ.out.low.cell (p := ⟨b, o + i, none⟩) hbl).trans g0
      have hnx : longs (cs.take (i + 1)) = longs (cs.take i) ++ Big 4 (cs.getD i 0) := longs_take cs i (by omega)
      have HNX := Lib.hid hnx
      clear hr hnx
      generalize cs.getD i 0 = x at g0 hx0 hx1 HNX
      go_wp2_with fail
      refine (st_long (Nat.le_refl _) HQ.out x ⟨hx0, hx1⟩ (by omega)).mono ?_
      rintro e w7 ⟨rfl, hW7⟩
      have HW7 := Lib.hid hW7; clear hW7 HQ
      go_wp2
      go_roundw
      case rel => exact ⟨i + 1, n' + 4, by omega, by omega, by go_num, Lib.hid (by have := HW7.out; rwa [List.append_assoc, ← HNX.out] at this)⟩
      case measure => simp [intOf]; omega
    · have hltz : ¬ (i : Int) < (nc : Int) := by omega
      obtain rfl : i = nc := by omega
      have htk : cs.take i = cs := by rw [List.take_of_length_le (by have := HCS.out.1; omega)]
      rw [htk] at HQ
      clear htk
      have c6 : wr.cell? ⟨w.heap.size, 6, none⟩ = some (.bool h) := by rw [cell_of_row wr _ 6 _ _ _ (HCELL.out wr HQ.out.low)]; rfl
      cases h
      · have c9 : wr.cell? ⟨w.heap.size, 9, none⟩ = some (.slice ap np cp) := by rw [cell_of_row wr _ 9 _ _ _ (HCELL.out wr HQ.out.low)]; rfl
        go_wp2_with fail
        refine (st_put (Nat.le_refl _) HQ.out ap np cp py HPY.out (by omega) (by omega)).mono ?_
        rintro e w8 ⟨rfl, hW8⟩
        have HW8 := Lib.hid hW8; clear hW8 c9 c6 HQ
        have c10 : w8.cell? ⟨w.heap.size, 10, none⟩ = some (.slice ad nd cd) := by rw [cell_of_row w8 _ 10 _ _ _ (HCELL.out w8 HW8.out.low)]; rfl
        go_wp2_with fail
        refine (st_put (Nat.le_refl _) HW8.out ad nd cd pd HPD.out (by omega) (by omega)).mono ?_
        rintro e w9 ⟨rfl, hW9⟩
        have HW9 := Lib.hid hW9; clear hW9 c10 HW8
        have hNe : n' + np + nd = N := by rw [← HN.out]; unfold sz; simp; omega
        have hee : l6 ++ longs cs ++ py ++ pd = enc ⟨m, pt, sq, ts, ss, cs, false, pr, ex, py, pd⟩ ⟨ac, i, cc, ae, ne, ce, ap, np, cp, ad, nd, cd⟩ := by
          rw [← HL6.out]
          simp only [enc, hd0, hd1]
          rw [HX1.out, HX2.out, HX3.out, HVV.out, HVV1.out]
          simp
        rw [hNe, hee] at HW9
        clear hNe hee
        have HBW := Lib.hid (show Below w.heap.size w w9 from HB0.out.trans (HW9.out.low.mono HB0.out.size))
        have hN8 : N ≤ 100000000 := by rw [← HN.out]; unfold sz; simp; omega
        clear HN
        go_wp2_with fail
        refine (st_done HW9.out hN8).mono ?_
        rintro e w10 ⟨a10, c10, rfl, hO10, hB10⟩
        have HO10 := Lib.hid hO10; have HB10 := Lib.hid hB10; clear hO10 hB10
        go_wp2
        go_ret
        exact ⟨a10, c10, rfl, HO10.out.mono HBW.out.size, HBW.out.trans (HB10.out.mono HBW.out.size)⟩
      · have c7 : wr.cell? ⟨w.heap.size, 7, none⟩ = some (.int .u16 pr) := by rw [cell_of_row wr _ 7 _ _ _ (HCELL.out wr HQ.out.low)]; rfl
        have eq : ((ne : Int)).tdiv 4 = ((ne / 4 : Nat) : Int) := by rw [Int.tdiv_eq_ediv_of_nonneg (by omega)]; simp
        have hqb : ne / 4 < 65536 := by omega
        have hqw : IntKind.u16.wrap ((ne / 4 : Nat) : Int) = ((ne / 4 : Nat) : Int) := by simp [IntKind.wrap, IntKind.bits, IntKind.signed]; omega
        obtain ⟨q, hq⟩ : ∃ q, ne / 4 = q := ⟨_, rfl⟩
        rw [hq] at eq hqb hqw
        have HQQ := Lib.hid hq; clear hq
        go_wp2_with fail
        refine (st_word (Nat.le_refl _) HQ.out pr hpr (by omega)).mono ?_
        rintro e w7 ⟨rfl, hW7⟩
        have HW7 := Lib.hid hW7; clear hW7 c6 c7 HQ
        have c8 : w7.cell? ⟨w.heap.size, 8, none⟩ = some (.slice ae ne ce) := by rw [cell_of_row w7 _ 8 _ _ _ (HCELL.out w7 HW7.out.low)]; rfl
        go_wp2_with fail
        refine (st_word (Nat.le_refl _) HW7.out q ⟨by omega, by omega⟩ (by omega)).mono ?_
        rintro e w11 ⟨rfl, hW11⟩
        have HW11 := Lib.hid hW11; clear hW11 c8 HW7
        have c8 : w11.cell? ⟨w.heap.size, 8, none⟩ = some (.slice ae ne ce) := by rw [cell_of_row w11 _ 8 _ _ _ (HCELL.out w11 HW11.out.low)]; rfl
        go_wp2_with fail
        refine (st_put (Nat.le_refl _) HW11.out ae ne ce ex HEX.out (by omega) (by omega)).mono ?_
        rintro e w12 ⟨rfl, hW12⟩
        have HW12 := Lib.hid hW12; clear hW12 c8 HW11
        have c9 : w12.cell? ⟨w.heap.size, 9, none⟩ = some (.slice ap np cp) := by rw [cell_of_row w12 _ 9 _ _ _ (HCELL.out w12 HW12.out.low)]; rfl
        go_wp2_with fail
        refine (st_put (Nat.le_refl _) HW12.out ap np cp py HPY.out (by omega) (by omega)).mono ?_
        rintro e w8 ⟨rfl, hW8⟩
        have HW8 := Lib.hid hW8; clear hW8 c9 HW12
        have c10 : w8.cell? ⟨w.heap.size, 10, none⟩ = some (.slice ad nd cd) := by rw [cell_of_row w8 _ 10 _ _ _ (HCELL.out w8 HW8.out.low)]; rfl
        go_wp2_with fail
        refine (st_put (Nat.le_refl _) HW8.out ad nd cd pd HPD.out (by omega) (by omega)).mono ?_
        rintro e w9 ⟨rfl, hW9⟩
        rw [← HQQ.out] at hW9
        have HW9 := Lib.hid hW9; clear hW9 c10 HW8
        have hNe : n' + 2 + 2 + ne + np + nd = N := by rw [← HN.out]; unfold sz; simp; omega
        have hee : l6 ++ longs cs ++ Big 2 pr ++ Big 2 ((ne / 4 : Nat) : Int) ++ ex ++ py ++ pd = enc ⟨m, pt, sq, ts, ss, cs, true, pr, ex, py, pd⟩ ⟨ac, i, cc, ae, ne, ce, ap, np, cp, ad, nd, cd⟩ := by
          rw [← HL6.out]
          simp only [enc, hd0, hd1]
          rw [HX1.out, HX2.out, HX3.out, HVV.out, HVV1.out]
          simp
        rw [hNe, hee] at HW9
        clear hNe hee
        have HBW := Lib.hid (show Below w.heap.size w w9 from HB0.out.trans (HW9.out.low.mono HB0.out.size))
        have hN8 : N ≤ 100000000 := by rw [← HN.out]; unfold sz; simp; omega
        clear HN
        go_wp2_with fail
        refine (st_done HW9.out hN8).mono ?_
        rintro e w10 ⟨a10, c10, rfl, hO10, hB10⟩
        have HO10 := Lib.hid hO10; have HB10 := Lib.hid hB10; clear hO10 hB10
        go_wp2
        go_ret
        exact ⟨a10, c10, rfl, HO10.out.mono HBW.out.size, HBW.out.trans (HB10.out.mono HBW.out.size)⟩
end Go.Proofs.Ytkoldfoliigifaa

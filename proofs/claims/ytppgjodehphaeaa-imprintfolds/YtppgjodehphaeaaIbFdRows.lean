/-
  Eight zeros made.
-/
import Derived.Test.YtppgjodehphaeaaStrRef2
import Derived.Deep.OwnRows
import Derived.Test.YtppgjodehphaeaaIbFd1
namespace Go.Proofs.Ytppgjodehphaeaa
open Go.RowKit Go.Shelf
set_option linter.unusedVariables false
def z8 : List Int := [0, 0, 0, 0, 0, 0, 0, 0]
theorem mk8 (W : World) : (Instr.makeSlice 22 (.int .i64 8) (.int .i64 8)).run Try.prog W = .ok (.slice (some ⟨W.heap.size, 0, none⟩) 8 8) (W.alloc (.cells #[.int .u8 0, .int .u8 0, .int .u8 0, .int .u8 0, .int .u8 0, .int .u8 0, .int .u8 0, .int .u8 0] 5)) := by
  have h := run_make_row' (P := Try.prog) 22 5 (.int .u8 0) 1 (by kernel_rfl) (by kernel_rfl) rfl .i64 .i64 8 (by decide) (by decide) W
  have e : madeCells #[Value.int .u8 0] 8 = #[.int .u8 0, .int .u8 0, .int .u8 0, .int .u8 0, .int .u8 0, .int .u8 0, .int .u8 0, .int .u8 0] := by first | kernel_rfl | (unfold madeCells; simp [Array.range]; rfl) | (unfold madeCells; rfl)
  rw [e] at h
  exact h
theorem mk8_own (W : World) (base : Nat) (hb : base ≤ W.heap.size) : Own (W.alloc (.cells #[.int .u8 0, .int .u8 0, .int .u8 0, .int .u8 0, .int .u8 0, .int .u8 0, .int .u8 0, .int .u8 0] 5)) base (some ⟨W.heap.size, 0, none⟩) 8 8 z8 :=
  ⟨⟨rfl, .inr ⟨W.heap.size, 8, _, rfl, hb, heap_alloc_new W _, Nat.le_refl _, by unfold maxLen; omega, rfl, rfl⟩⟩, fun i => by
    rcases i with _ | _ | _ | _ | _ | _ | _ | _ | i
    all_goals simp [z8]⟩
end Go.Proofs.Ytppgjodehphaeaa
namespace Go.Proofs.Ytppgjodehphaeaa
open Go.RowKit Go.Shelf
set_option linter.unusedVariables false
set_option linter.unusedSimpArgs false
/-- The reference's imprints in memory. -/
def FAt (W : World) (a : Option Addr) (K : Nat) (hs bs : List (List Int)) : Prop :=
  ∃ (g o : Nat) (AH : Nat → Option Addr) (CH : Nat → Nat) (A : Nat → Option Addr) (bn C : Nat → Nat), (0 < K → a = some ⟨g, o, none⟩) ∧ (0 < K → g < W.heap.size) ∧ ∀ k, k < K → W.cell? ⟨g, o + k * 2, none⟩ = some (.slice (AH k) 8 (CH k)) ∧ W.cell? ⟨g, o + k * 2 + 1, none⟩ = some (.slice (A k) (bn k) (C k)) ∧ BAt W (AH k) 8 (hs.getD k []) ∧ BAt W (A k) (bn k) (bs.getD k []) ∧ bn k ≤ 100000
theorem FAt.below {W W' : World} {a : Option Addr} {K : Nat} {hs bs : List (List Int)} (h : FAt W a K hs bs) (hb : Below W.heap.size W W') : FAt W' a K hs bs := by
  obtain ⟨g, o, AH, CH, A, bn, C, h1, h2, h3⟩ := h
  refine ⟨g, o, AH, CH, A, bn, C, h1, fun hk => by have := h2 hk; have := hb.size; omega, fun k hk => ?_⟩
  obtain ⟨q1, q2, q3, q4, q5⟩ := h3 k hk
  exact ⟨(hb.cell (p := ⟨g, o + k * 2, none⟩) (h2 (by omega))).trans q1, (hb.cell (p := ⟨g, o + k * 2 + 1, none⟩) (h2 (by omega))).trans q2, q3.below hb, q4.below hb, q5⟩
/-- What All leaves. -/
def RAllOut (hs bs : List (List Int)) (w : World) (e : Ending) (w' : World) : Prop :=
  ∃ ah ch ab nb cb, e = .returned (.agg #[.slice ah 8 ch, .slice ab nb cb]) ∧ BAt w' ah 8 (Str.all z8 hs) ∧ BAt w' ab nb (Str.all [] bs) ∧ Below w.heap.size w w'
/-- In front of round k of All. -/
structure RA (w W : World) (hl bl : List Int) (ah : Option Addr) (ch : Nat) (ab : Option Addr) (nb cb : Nat) : Prop where
  out : W.heap[w.heap.size + 1 + 1]? = some (.cells #[.slice ah 8 ch, .slice ab nb cb] 32 (0, 0))
  bx : W.heap[w.heap.size]? = some (.cells #[.slice none 0 0, .slice none 0 0] 32 (0, 0))
  hd : Own W (w.heap.size + 1) ah 8 ch hl
  bd : Own W (w.heap.size + 1) ab nb cb bl
  low : Below w.heap.size w W
theorem RA.next {w W W' : World} {hl bl hl' bl' : List Int} {ah : Option Addr} {ch : Nat} {ab : Option Addr} {nb cb : Nat} (h : RA w W hl bl ah ch ab nb cb) (hb : Below W.heap.size W W') (ah' : Option Addr) (ch' : Nat) (ab' : Option Addr) (nb' cb' : Nat) (h1 : Own W' W.heap.size ah' 8 ch' hl') (h2 : Own W' W.heap.size ab' nb' cb' bl') :
    RA w ((W'.setCell ⟨w.heap.size + 1 + 1, 0, none⟩ (.slice ah' 8 ch')).setCell ⟨w.heap.size + 1 + 1, 1, none⟩ (.slice ab' nb' cb')) hl' bl' ah' ch' ab' nb' cb' := by
  have hz : w.heap.size + 1 + 1 < W.heap.size := (Array.getElem?_eq_some_iff.1 h.out).1
  have ho' := (hb.block _ hz).trans h.out
  have hbx' := (hb.block _ (by omega)).trans h.bx
  refine ⟨heap_setCell_same _ _ 1 _ _ _ (heap_setCell_same W' _ 0 _ _ _ ho'), ?_, (h1.put2 hz (by omega) _ _), (h2.put2 hz (by omega) _ _), ((h.low.trans (hb.mono h.low.size)).setCell (by show _ ≤ w.heap.size + 1 + 1; omega) _).setCell (by show _ ≤ w.heap.size + 1 + 1; omega) _⟩
  rw [Below.heap_setCell _ _ _ _ (by simp; omega), Below.heap_setCell _ _ _ _ (by simp; omega)]; exact hbx'
theorem all_len8 (hs : List (List Int)) (h : ∀ l ∈ hs, l.length = 8) : (Str.all z8 hs).length = 8 := by
  have : ∀ (hs : List (List Int)) (z : List Int), z.length = 8 → (∀ l ∈ hs, l.length = 8) → (Str.all z hs).length = 8 := by
    intro hs
    induction hs with
    | nil => intro z hz _; exact hz
    | cons a hs ih => intro z hz h; exact ih (Str.xor z a) (by rw [Str.xor_len, hz, h a (by simp)]; rfl) (fun l hl => h l (by simp [hl]))
  exact this hs z8 rfl h
theorem all_take' (z : List Int) (ls : List (List Int)) (k : Nat) (h : k < ls.length) : Str.all z (ls.take (k + 1)) = Str.xor (Str.all z (ls.take k)) (ls.getD k []) := by
  have e : ls.take (k + 1) = ls.take k ++ [ls.getD k []] := by
    rw [List.take_add_one, List.getElem?_eq_getElem h, List.getD_eq_getElem?_getD, List.getElem?_eq_getElem h]; rfl
  rw [e]
  have : ∀ (a : List (List Int)) (z b : List Int), Str.all z (a ++ [b]) = Str.xor (Str.all z a) b := by
    intro a
    induction a with
    | nil => intro z b; rfl
    | cons c a ih => intro z b; exact ih (Str.xor z c) b
  exact this _ _ _
theorem xor_len_of (a b : List Int) (n m : Nat) (h1 : a.length = n) (h2 : b.length = m) : (Str.xor a b).length = max n m := by rw [Str.xor_len, h1, h2]
set_option maxHeartbeats 1000000 in
set_option maxRecDepth 100000 in
theorem rall_any (a : Option Addr) (K c : Nat) (hs bs : List (List Int)) (w : World) (h : FAt w a K hs bs) (h1 : hs.length = K) (h2 : bs.length = K) (hK : K ≤ 1000) (hB : ∀ k, k ≤ K → (Str.all [] (bs.take k)).length ≤ 140737488355328) :
    Calls Try.prog 24 #[.slice a K c] w (RAllOut hs bs w) := by
  have HF := Lib.hid h
  have HL1 := Lib.hid h1; have HL2 := Lib.hid h2; have HBB := Lib.hid hB
  clear h h1 h2 hB
  have hmk := mk8
  go_enter Try.func24, Try.ntmps24
  go_wp2_with fail
  obtain ⟨w0, hw0⟩ : ∃ w0, ((w.alloc (.cells #[.slice none 0 0, .slice none 0 0] 32)).alloc (.cells #[.int .u8 0, .int .u8 0, .int .u8 0, .int .u8 0, .int .u8 0, .int .u8 0, .int .u8 0, .int .u8 0] 5)).alloc (.cells #[.slice (some ⟨w.heap.size + 1, 0, none⟩) 8 8, .slice none 0 0] 32) = w0 := ⟨_, rfl⟩
  have HR0 : Hid (RA w w0 z8 [] (some ⟨w.heap.size + 1, 0, none⟩) 8 none 0 0) := Lib.hid (by
    obtain ⟨u1, hu1⟩ : ∃ u, w.alloc (.cells #[.slice none 0 0, .slice none 0 0] 32) = u := ⟨_, rfl⟩
    have e1 : u1.heap.size = w.heap.size + 1 := by rw [← hu1]; simp
    have k1 : Below w.heap.size w u1 := by rw [← hu1]; exact (Below.refl _ w).alloc (Nat.le_refl _) _
    have x1 : u1.heap[w.heap.size]? = some (.cells #[.slice none 0 0, .slice none 0 0] 32 (0, 0)) := by rw [← hu1]; exact lit_new rfl
    rw [hu1] at hw0
    have o2 := mk8_own u1 (w.heap.size + 1) (by omega)
    rw [e1] at o2
    obtain ⟨u2, hu2⟩ : ∃ u, u1.alloc (.cells #[.int .u8 0, .int .u8 0, .int .u8 0, .int .u8 0, .int .u8 0, .int .u8 0, .int .u8 0, .int .u8 0] 5) = u := ⟨_, rfl⟩
    rw [hu2] at hw0 o2
    have e2 : u2.heap.size = w.heap.size + 1 + 1 := by rw [← hu2]; simp [e1]
    have k2 : Below u1.heap.size u1 u2 := by rw [← hu2]; exact (Below.refl _ u1).alloc (Nat.le_refl _) _
    have k3 : Below u2.heap.size u2 w0 := by rw [← hw0]; exact (Below.refl _ u2).alloc (Nat.le_refl _) _
    refine ⟨?_, (k3.block _ (by omega)).trans ((k2.block _ (by omega)).trans x1), o2.below k3, ⟨World.ownsRow_nil _ _ _ _, Str.ok_nil⟩, k1.trans ((k2.mono (by omega)).trans (k3.mono (by omega)))⟩
    rw [← hw0, show w.heap.size + 1 + 1 = u2.heap.size by omega]
    exact lit_new rfl)
  rw [hw0]
  clear hw0 hmk
  go_loopw [4] (fun iv wr => ∃ (k : Nat) (ah : Option Addr) (ch : Nat) (ab : Option Addr) (nb cb : Nat), k ≤ K ∧ iv = .int .i64 k ∧ Hid (RA w wr (Str.all z8 (hs.take k)) (Str.all [] (bs.take k)) ah ch ab nb cb)) (fun iv _ => K - (intOf iv).toNat)
  case atStart => exact ⟨0, _, _, _, _, _, Nat.zero_le _, rfl, HR0⟩
  case round =>
    obtain ⟨k, ah, ch, ab, nb, cb, hk, rfl, HQ⟩ := hrel
    clear HR0
    by_cases hlt : k < K
    · have hltz : (k : Int) < (K : Int) := by omega
      obtain ⟨g, o, AH, CH, A, bn, C, f1, f2, f3⟩ := HF.out
      obtain rfl := f1 (by omega)
      have hg := f2 (by omega)
      obtain ⟨q1, q2, q3, q4, q5⟩ := f3 k hlt
      have e1 : wr.cell? ⟨g, o + k * 2, none⟩ = some (.slice (AH k) 8 (CH k)) := (HQ.out.low.cell (p := ⟨g, o + k * 2, none⟩) hg).trans q1
      have e2 : wr.cell? ⟨g, o + k * 2 + 1, none⟩ = some (.slice (A k) (bn k) (C k)) := (HQ.out.low.cell (p := ⟨g, o + k * 2 + 1, none⟩) hg).trans q2
      have hdb : Below wr.heap.size wr wr.drew := (Below.refl _ wr).drew
      have hx1 := all_take' z8 hs k (by have := HL1.out; omega)
      have hx2 := all_take' [] bs k (by have := HL2.out; omega)
      have hl8 : (Str.xor (Str.all z8 (hs.take k)) (hs.getD k [])).length = 8 := by rw [xor_len_of _ _ 8 8 HQ.out.hd.len q3.len]; rfl
      have hadd := radd12_any ah ab (AH k) (A k) 8 nb ch cb 8 (bn k) (CH k) (C k) _ _ _ _ wr.drew (HQ.out.hd.bat.below hdb) (HQ.out.bd.bat.below hdb) ((q3.below HQ.out.low).below hdb) ((q4.below HQ.out.low).below hdb) (by omega) (by omega) (by have := HBB.out k hk; have := HQ.out.bd.len; omega) (by omega)
      have HX1 := Lib.hid hx1; have HX2 := Lib.hid hx2; have HL8 := Lib.hid hl8; have HADD := Lib.hid hadd
      have o0 : wr.cell? ⟨w.heap.size + 1 + 1, 0, none⟩ = some (.slice ah 8 ch) := by rw [cell_of_row wr _ 0 _ _ _ HQ.out.out]; rfl
      have o1 : wr.cell? ⟨w.heap.size + 1 + 1, 1, none⟩ = some (.slice ab nb cb) := by rw [cell_of_row wr _ 1 _ _ _ HQ.out.out]; rfl
      clear f1 f2 f3 q1 q2 q3 q4 hx1 hx2 hl8 hadd
      generalize AH k = ak at *
      generalize CH k = ck at *
      generalize A k = bk at *
      generalize bn k = nk at *
      generalize C k = dk at *
      obtain ⟨n4, hn4⟩ : ∃ n, (Str.xor (Str.all [] (bs.take k)) (bs.getD k [])).length = n := ⟨_, rfl⟩
      have HN4 := Lib.hid hn4; clear hn4
      go_wp2_with fail
      go_region_law
        (first
          | (go_simp; go_at_call 17; refine (HADD.out).mono ?_; rintro e w3 ⟨a3, c3, a4, c4, rfl, hO3, hO4, hB3⟩; rw [HL8.out] at hO3; rw [HL8.out]; rw [HN4.out] at hO4; rw [HN4.out]; have HN3 := Lib.hid (HQ.out.next (hdb.trans hB3) a3 c3 a4 n4 c4 hO3 hO4); have r3 := ((hdb.trans hB3).block _ (Array.getElem?_eq_some_iff.1 HQ.out.out).1).trans HQ.out.out; have p0 : w3.cell? ⟨w.heap.size + 1 + 1, 0, none⟩ = some (.slice ah 8 ch) := (by rw [cell_of_row w3 _ 0 _ _ _ r3]; rfl); have p1 := cell_of_row w3 _ 1 _ _ _ r3; have pf : ∀ o, w3.frozen? ⟨w.heap.size + 1 + 1, o, none⟩ = false := (fun o => frozen_of_row w3 _ o _ _ r3); clear hO3 hO4 hB3 r3))
      all_goals go_wp2
      all_goals
        rw [← HX1.out, ← HX2.out] at HN3
        go_roundw
        case rel => exact ⟨k + 1, a3, c3, a4, n4, c4, by omega, by go_num, HN3⟩
        case measure => simp [intOf]; omega
    · have hltz : ¬ (k : Int) < (K : Int) := by omega
      obtain rfl : k = K := by omega
      have hq := HQ.out
      rw [List.take_of_length_le (by have := HL1.out; omega), List.take_of_length_le (by have := HL2.out; omega)] at hq
      have HH := Lib.hid hq; clear hq HQ HF
      have hz : w.heap.size + 1 + 1 < wr.heap.size := (Array.getElem?_eq_some_iff.1 HH.out.out).1
      have o0 : wr.cell? ⟨w.heap.size + 1 + 1, 0, none⟩ = some (.slice ah 8 ch) := by rw [cell_of_row wr _ 0 _ _ _ HH.out.out]; rfl
      have o1 : wr.cell? ⟨w.heap.size + 1 + 1, 1, none⟩ = some (.slice ab nb cb) := by rw [cell_of_row wr _ 1 _ _ _ HH.out.out]; rfl
      have b0 : wr.cell? ⟨w.heap.size, 0, none⟩ = some (.slice none 0 0) := by rw [cell_of_row wr _ 0 _ _ _ HH.out.bx]; rfl
      have b1 : wr.cell? ⟨w.heap.size, 1, none⟩ = some (.slice none 0 0) := by rw [cell_of_row wr _ 1 _ _ _ HH.out.bx]; rfl
      have bf : ∀ o, wr.frozen? ⟨w.heap.size, o, none⟩ = false := fun o => frozen_of_row wr _ o _ _ HH.out.bx
      have hb1 := HH.out.hd.put2 (P := w.heap.size) (base' := w.heap.size) (by omega) (by omega) (.slice ah 8 ch) (.slice ab nb cb)
      have hb2 := HH.out.bd.put2 (P := w.heap.size) (base' := w.heap.size) (by omega) (by omega) (.slice ah 8 ch) (.slice ab nb cb)
      have hr5 : ((wr.setCell ⟨w.heap.size, 0, none⟩ (.slice ah 8 ch)).setCell ⟨w.heap.size, 1, none⟩ (.slice ab nb cb)).heap[w.heap.size]? = some (.cells #[.slice ah 8 ch, .slice ab nb cb] 32 (0, 0)) := heap_setCell_same _ _ 1 _ _ _ (heap_setCell_same wr _ 0 _ _ _ HH.out.bx)
      have hlow : Below w.heap.size w ((wr.setCell ⟨w.heap.size, 0, none⟩ (.slice ah 8 ch)).setCell ⟨w.heap.size, 1, none⟩ (.slice ab nb cb)) := (HH.out.low.setCell (by show _ ≤ w.heap.size; omega) _).setCell (by show _ ≤ w.heap.size; omega) _
      obtain ⟨w5, hw5⟩ : ∃ w5, (wr.setCell ⟨w.heap.size, 0, none⟩ (.slice ah 8 ch)).setCell ⟨w.heap.size, 1, none⟩ (.slice ab nb cb) = w5 := ⟨_, rfl⟩
      rw [hw5] at hb1 hb2 hr5 hlow
      have HFIN : Hid (RAllOut hs bs w (.returned (.agg #[.slice ah 8 ch, .slice ab nb cb])) w5) := Lib.hid ⟨ah, ch, ab, nb, cb, rfl, hb1.bat, hb2.bat, hlow⟩
      clear hb1 hb2 hlow
      have k0 : w5.cell? ⟨w.heap.size, 0, none⟩ = some (.slice ah 8 ch) := by rw [cell_of_row w5 _ 0 _ _ _ hr5]; rfl
      have k1 : w5.cell? ⟨w.heap.size, 1, none⟩ = some (.slice ab nb cb) := by rw [cell_of_row w5 _ 1 _ _ _ hr5]; rfl
      go_wp2_with fail
      exact bodyPost_ret (v := .agg #[.slice ah 8 ch, .slice ab nb cb]) (by simp [results, Try.results24, k0, k1, go_sem]) rfl HFIN.out
end Go.Proofs.Ytppgjodehphaeaa
namespace Go.Proofs.Ytppgjodehphaeaa
open Go.RowKit Go.Shelf
set_option linter.unusedVariables false
/-- A slice of slices of numbers that came in. -/
def RowsIn (k : IntKind) (w : World) (a : Option Addr) (len cap : Nat) (A : Nat → Option Addr) (L C : Nat → Nat) (Z : Nat → List Int) : Prop :=
  (a = none ∧ len = 0 ∧ cap = 0) ∨
  ∃ x, a = some x ∧ len ≤ cap ∧ cap ≤ maxLen ∧ ∀ r, r < cap → w.cell? (x.add r) = some (.slice (A r) (L r) (C r)) ∧ L r ≤ C r ∧ C r ≤ maxLen ∧ (Z r).length = C r ∧ (∀ n ∈ Z r, (Lit.int k n).wf = true) ∧ (A r = none → C r = 0) ∧
    ∀ a', A r = some a' → ∀ c, c < C r → w.cell? (a'.add c) = some (.int k ((Z r).getD c 0))
theorem RowsIn.row {w : World} {a : Option Addr} {len cap : Nat} {A : Nat → Option Addr} {L C : Nat → Nat} {Z : Nat → List Int} (h : RowsIn .u8 w a len cap A L C Z) :
    len ≤ cap ∧ len ≤ maxLen ∧ ∃ b o, ∀ k, k < len → a = some ⟨b, o, none⟩ ∧ b < w.heap.size ∧ w.cell? ⟨b, o + k, none⟩ = some (.slice (A k) (L k) (C k)) ∧ BAt w (A k) (L k) ((Z k).take (L k)) ∧ L k ≤ C k := by
  rcases h with ⟨rfl, rfl, rfl⟩ | ⟨⟨b, o, sp⟩, rfl, hl, hm, hr⟩
  · exact ⟨Nat.le_refl _, Nat.zero_le _, 0, 0, fun k hk => by omega⟩
  · refine ⟨hl, by omega, b, o, fun k hk => ?_⟩
    obtain ⟨h1, h2, h3, h4, h5, h6, h7⟩ := hr k (by omega)
    have hs : sp = none := by
      have := World.cell?_spot (hr 0 (by omega)).1; simpa [Addr.add] using this
    subst hs
    rw [show (Addr.add ⟨b, o, none⟩ k) = ⟨b, o + k, none⟩ from by unfold Addr.add; split <;> simp_all] at h1
    refine ⟨rfl, World.block_lt_of_cell? w _ h1, h1, ?_, h2⟩
    have hrow : IntRow .u8 w (A k) (L k) (C k) (Z k) := by
      cases hA : A k with
      | none =>
        have := h6 hA
        exact .inl ⟨rfl, by omega, this, List.eq_nil_of_length_eq_zero (by omega)⟩
      | some a' => exact .inr ⟨a', rfl, h2, h3, h4, fun i hi => h7 a' hA i (by omega), h5⟩
    exact hrow.bat.1
theorem info_sl : (Try.prog.info? 22).map (fun i => (i.zero, i.size, i.bytes)) = some (some (Value.slice none 0 0), 1, 24) := by kernel_rfl
/-- append(x, y...) of slices of slices, x in a row of its own. -/
theorem append_slices (w : World) (ty : TypeId) (base : Nat) (a : Option Addr) (n c : Nat) (xs : List Value) (h : w.ownsRow base 22 1 (.slice a n c) n xs) (a2 : Option Addr) (m c2 : Nat) (news : List Value) (hl : news.length = m)
    (hsrc : 0 < m → ∃ x, a2 = some x ∧ ∀ j u, news[j]? = some u → w.cell? (x.add j) = some u) (h1 : ∀ u ∈ news, u.oneCell' = true) (hlim : n + m ≤ 5000000000) (hbase : base ≤ w.heap.size) :
    ∃ a' c' w', (Builtin.append_ #[53, 53] ty #[.slice a n c, .slice a2 m c2]).run Try.prog w = .ok (.slice a' (n + m) c') w' ∧
      w'.ownsRow base 22 1 (.slice a' (n + m) c') (n + m) (xs ++ news) ∧ w.grownBy w' (a.map (·.block)) ∧ (∀ x, a' = some x → (∃ y, a = some y ∧ x.block = y.block) ∨ x.block = w.heap.size) := by
  obtain ⟨i0, hi0, hz0, hz1, hz2⟩ := info_parts info_sl
  cases a2 with
  | none =>
    have h0 : m = 0 := by
      rcases Nat.eq_zero_or_pos m with h' | h'
      · exact h'
      · obtain ⟨x, e, _⟩ := hsrc h'; cases e
    subst h0
    have hl0 : news = [] := List.eq_nil_of_length_eq_zero hl
    subst hl0
    rw [List.append_nil]
    refine ⟨a, c, w, ?_, h, grown_refl w _, fun x hx => .inl ⟨x, hx, rfl⟩⟩
    have hnc : n ≤ c := by
      rcases h.2 with ⟨hv, rfl⟩ | ⟨g, cap, cur, hv, _, _, hnc, _⟩
      · exact Nat.zero_le _
      · simp only [Value.slice.injEq, true_and] at hv; omega
    cases a <;> simp [Builtin.append_, run_underlying Try.underlying53, sizeOf, typeInfo, hi0, Builtin.lenOf, Builtin.firstCells, hnc, storeCells]
  | some x =>
    have hsrc' : ∀ j u, news[j]? = some u → w.cell? (x.add j) = some u := fun j u hu => by
      have hj : j < news.length := (List.getElem?_eq_some_iff.1 hu).1
      obtain ⟨y, e, hs⟩ := hsrc (by omega)
      cases e; exact hs j u hu
    obtain ⟨v', w', hr, ho, hg, hnil, hat⟩ := run_append_own_at (P := Try.prog) w base 53 ty 22 i0 (.slice none 0 0) 1 24 Try.underlying53 hi0 hz0 hz1 hz2 rfl (by decide) (.slice a n c) n _ h x m c2 news (by omega) hsrc' h1 (by unfold maxLen; omega) (by omega) hbase
    have hv : ∃ a' c', v' = .slice a' (n + m) c' := by
      rcases ho.2 with ⟨rfl, e⟩ | ⟨g, cap, cur, rfl, _⟩
      · exact ⟨none, 0, by rw [e]⟩
      · exact ⟨_, _, rfl⟩
    obtain ⟨a', c', rfl⟩ := hv
    have eb : ∀ (y : Option Addr) (k d : Nat), (Value.slice y k d).ownBlock = y.map (·.block) := fun y k d => by cases y <;> rfl
    rw [eb] at hg
    rw [eb, eb] at hat
    refine ⟨a', c', w', hr, ho, hg, fun y hy => ?_⟩
    subst hy
    rcases hat with e | e
    · cases a with
      | none => cases e
      | some z => exact .inl ⟨z, rfl, by simpa using e⟩
    · exact .inr (by simpa using e)
/-- One slice more. -/
theorem append_slice1 (w : World) (ty : TypeId) (base : Nat) (a : Option Addr) (n c : Nat) (xs : List Value) (h : w.ownsRow base 22 1 (.slice a n c) n xs) (b : Option Addr) (m d : Nat) (hlim : n ≤ 1000000) (hbase : base ≤ w.heap.size) :
    ∃ a' c' w', (Builtin.append_ #[53, 53] ty #[.slice a n c, .slice (some ⟨w.heap.size, 0, none⟩) 1 1]).run Try.prog (w.alloc (.cells #[.slice b m d] 22)) = .ok (.slice a' (n + 1) c') w' ∧
      w'.ownsRow base 22 1 (.slice a' (n + 1) c') (n + 1) (xs ++ [.slice b m d]) ∧ (w.alloc (.cells #[.slice b m d] 22)).grownBy w' (a.map (·.block)) ∧ (∀ x, a' = some x → (∃ y, a = some y ∧ x.block = y.block) ∨ w.heap.size < x.block) := by
  obtain ⟨w0, hw0⟩ : ∃ w0, w.alloc (.cells #[.slice b m d] 22) = w0 := ⟨_, rfl⟩
  have hz : w0.heap.size = w.heap.size + 1 := by rw [← hw0]; simp
  have hnew : w0.heap[w.heap.size]? = some (.cells #[.slice b m d] 22 (0, 0)) := by rw [← hw0]; exact lit_new rfl
  have ho : w0.ownsRow base 22 1 (.slice a n c) n xs := by rw [← hw0]; exact h.alloc _
  rw [hw0]
  obtain ⟨a', c', w', h1, h2, h3, h4⟩ := append_slices w0 ty base a n c xs ho (some ⟨w.heap.size, 0, none⟩) 1 1 [.slice b m d] rfl (fun _ => ⟨_, rfl, fun j u hu => by
    match j with
    | 0 =>
      rw [show (Addr.add ⟨w.heap.size, 0, none⟩ 0) = ⟨w.heap.size, 0, none⟩ from rfl, cell_of_row w0 _ 0 _ _ _ hnew]
      simpa using hu
    | j + 1 => simp at hu⟩) (fun u hu => by simp at hu; subst hu; rfl) (by omega) (by omega)
  refine ⟨a', c', w', h1, h2, h3, fun x hx => ?_⟩
  rcases h4 x hx with e | e
  · exact .inl e
  · right; omega
end Go.Proofs.Ytppgjodehphaeaa

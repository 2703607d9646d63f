/-
  imprint.readBits: a Reader and a Writer side by side.
-/
import Derived.Test.YtedhmoihlfjbdaaRtpParse5
import Derived.Test.YtedhmoihlfjbdaaWireAttSib
import Derived.Test.YtedhmoihlfjbdaaRtpClone
import Derived.Laws.CopyOwn
import Derived.Deep.RegionLaw
import Derived.Deep.RegionHeld3
import Derived.Deep.Cut
import Derived.Deep.CutBlock
namespace Go.Proofs.Ytedhmoihlfjbdaa
open Go.RowKit Go.Shelf
set_option linter.unusedVariables false
/-- The Reader at R (its run is U) has l left, the Writer at s has bs; w is the world before. -/
structure RB (w W : World) (R U s : Nat) (a : Option Addr) (n c : Nat) (l : List Int) (m : Nat) (bs : List Int) : Prop where
  rd : RdAt W R U a n c l
  old : 0 < n → ∀ x, a = some x → x.block < w.heap.size
  wr : ∃ aw cw, WrAt W s w.heap.size aw m cw bs
  keep : Keep2 w W R (some U)
theorem RB.read {w W W' : World} {R U s : Nat} {a : Option Addr} {n c : Nat} {l : List Int} {m : Nat} {bs : List Int} (h : RB w W R U s a n c l m bs) (hR : R < w.heap.size) (hs : w.heap.size ≤ s) {k : Nat} (hr : RdAt W' R U (restA a c k) (n - k) (c - k) (l.drop k)) (hg : W.grownBy W' (some R)) : RB w W' R U s (restA a c k) (n - k) (c - k) (l.drop k) m bs := by
  refine ⟨hr, restA_old h.old, ?_, keep2_trans h.keep (took_keep hg U)⟩
  obtain ⟨aw, cw, hw⟩ := h.wr
  exact ⟨aw, cw, (hg.block s hw.lt (by intro e; injection e with e; omega)).trans hw.heap, hw.own.off hg hR, hw.ne⟩
theorem RB.write {w W W' : World} {R U s : Nat} {a : Option Addr} {n c : Nat} {l : List Int} {m m' : Nat} {bs bs' : List Int} (h : RB w W R U s a n c l m bs) (hR : R < w.heap.size) (hU : U < w.heap.size) (hs : w.heap.size ≤ s) {aw : Option Addr} {cw : Nat} (hw : WrAt W s w.heap.size aw m cw bs) {e : Ending} (hp : WrPost s w.heap.size m' bs' W (aw.map (·.block)) e W') :
    e = .returned (.tuple #[]) ∧ RB w W' R U s a n c l m' bs' := by
  obtain ⟨he, a', c', h1, h2, h3⟩ := hp
  have hbk : ∀ k, k < w.heap.size → some k ≠ aw.map (·.block) := fun k hk e => by
    cases aw with
    | none => cases e
    | some y => have := (hw.own.blk y rfl).1; simp at e; omega
  have hz := h.keep.size
  have hold : ∀ k, k < w.heap.size → W'.heap[k]? = W.heap[k]? := fun k hk => h2.block k (by omega) (by omega) (hbk k hk)
  refine ⟨he, ⟨(hold R hR).trans h.rd.rd, (hold U hU).trans h.rd.run, h.rd.ne, h.rd.row.same h2.size (fun x h0 hx _ => hold _ (h.old h0 x hx)), h.rd.cap, h.rd.far⟩, h.old, ⟨a', c', h1⟩, ⟨h2.os.trans h.keep.os, h2.tape.trans h.keep.tape, h2.output.trans h.keep.output, Nat.le_trans hz h2.size, fun k hk k1 k2 => (hold k hk).trans (h.keep.block k hk k1 k2)⟩⟩
section
variable {w W : World} {R U s : Nat} {a : Option Addr} {n c : Nat} {l : List Int} {m : Nat} {bs : List Int}
def RBPost (v : Value) (w : World) (R U s : Nat) (n : Nat) (l : List Int) (m : Nat) (bs : List Int) (e : Ending) (w' : World) : Prop := e = .returned v ∧ ∃ a' c', RB w w' R U s a' n c' l m bs
theorem rb_byte (h : RB w W R U s a n c l m bs) (hR : R < w.heap.size) (hs : w.heap.size ≤ s) (hn : 1 ≤ n) (v : Int) (hv : l.getD 0 0 = v) (l' : List Int) (hl' : l.drop 1 = l') (n' : Nat) (hn' : n - 1 = n') :
    Calls Try.prog 103 #[.pointer (some ⟨R, 0, none⟩)] W (RBPost (.int .i64 v) w R U s n' l' m bs) := by
  subst hv hl' hn'
  have := byte_ok R U a n c l W h.rd hn
  rw [byte1 l (by have := h.rd.row.len; omega)] at this
  exact this.mono fun e w' ⟨he, h1, h2⟩ => ⟨he, _, _, h.read hR hs h1 h2⟩
theorem rb_word (h : RB w W R U s a n c l m bs) (hR : R < w.heap.size) (hs : w.heap.size ≤ s) (hn : 2 ≤ n) (v : Int) (hv : Num (l.take 2) = v) (l' : List Int) (hl' : l.drop 2 = l') (n' : Nat) (hn' : n - 2 = n') :
    Calls Try.prog 104 #[.pointer (some ⟨R, 0, none⟩)] W (RBPost (.int .u16 v) w R U s n' l' m bs) := by
  subst hv hl' hn'
  exact (word_ok R U a n c l W h.rd hn).mono fun e w' ⟨he, h1, h2⟩ => ⟨he, _, _, h.read hR hs h1 h2⟩
theorem rb_long (h : RB w W R U s a n c l m bs) (hR : R < w.heap.size) (hs : w.heap.size ≤ s) (hn : 4 ≤ n) (v : Int) (hv : Num (l.take 4) = v) (l' : List Int) (hl' : l.drop 4 = l') (n' : Nat) (hn' : n - 4 = n') :
    Calls Try.prog 106 #[.pointer (some ⟨R, 0, none⟩)] W (RBPost (.int .u32 v) w R U s n' l' m bs) := by
  subst hv hl' hn'
  exact (long_ok R U a n c l W h.rd hn).mono fun e w' ⟨he, h1, h2⟩ => ⟨he, _, _, h.read hR hs h1 h2⟩
theorem rb_left (h : RB w W R U s a n c l m bs) :
    Calls Try.prog 108 #[.pointer (some ⟨R, 0, none⟩)] W (RBPost (.int .i64 n) w R U s n l m bs) :=
  (left_any R U a n c l W h.rd).mono fun e w' ⟨he, h1⟩ => ⟨he, _, _, h1 ▸ h⟩
theorem rb_rest (h : RB w W R U s a n c l m bs) (hR : R < w.heap.size) (hs : w.heap.size ≤ s) (hn : n ≤ 100000) :
    Calls Try.prog 109 #[.pointer (some ⟨R, 0, none⟩)] W (fun e w' => ∃ a' c', e = .returned (.slice a' n c') ∧ Own w' W.heap.size a' n c' l ∧ W.grownBy w' (some R) ∧ ∃ a2 c2, RB w w' R U s a2 0 c2 [] m bs) := by
  refine (rest_ok R U a n c l W h.rd (by omega)).mono ?_
  rintro e w' ⟨a', c', he, hO, h1, h2⟩
  have hl := h.rd.row.len
  have h3 := h.read hR hs h1 h2
  rw [List.take_of_length_le (by omega)] at hO
  rw [Nat.sub_self, List.drop_of_length_le (by omega)] at h3
  exact ⟨a', c', he, hO, h2, _, _, h3⟩
theorem rb_wbyte (h : RB w W R U s a n c l m bs) (hR : R < w.heap.size) (hU : U < w.heap.size) (hs : w.heap.size ≤ s) (x : Int) (hx : 0 ≤ x ∧ x ≤ 9223372036854775807) (hm : m ≤ 100000) :
    Calls Try.prog 102 #[.pointer (some ⟨s, 0, none⟩), .int .i64 x] W (RBPost (.tuple #[]) w R U s n l (m + 1) (bs ++ Big 1 x)) := by
  obtain ⟨aw, cw, hw⟩ := h.wr
  exact (wbyte_any s w.heap.size aw m cw bs x W hw hx.1 hx.2 (by omega) h.keep.size).mono fun e w' hp => have := h.write hR hU hs hw hp; ⟨this.1, _, _, this.2⟩
theorem rb_wword (h : RB w W R U s a n c l m bs) (hR : R < w.heap.size) (hU : U < w.heap.size) (hs : w.heap.size ≤ s) (x : Int) (hx : 0 ≤ x ∧ x < 65536) (hm : m ≤ 100000) :
    Calls Try.prog 107 #[.pointer (some ⟨s, 0, none⟩), .int .u16 x] W (RBPost (.tuple #[]) w R U s n l (m + 2) (bs ++ Big 2 x)) := by
  obtain ⟨aw, cw, hw⟩ := h.wr
  exact (wword_any s w.heap.size aw m cw bs x W hw hx.1 hx.2 (by omega) h.keep.size).mono fun e w' hp => have := h.write hR hU hs hw hp; ⟨this.1, _, _, this.2⟩
theorem rb_wlong (h : RB w W R U s a n c l m bs) (hR : R < w.heap.size) (hU : U < w.heap.size) (hs : w.heap.size ≤ s) (x : Int) (hx : 0 ≤ x ∧ x < 4294967296) (hm : m ≤ 100000) :
    Calls Try.prog 105 #[.pointer (some ⟨s, 0, none⟩), .int .u32 x] W (RBPost (.tuple #[]) w R U s n l (m + 4) (bs ++ Big 4 x)) := by
  obtain ⟨aw, cw, hw⟩ := h.wr
  exact (wlong_any s w.heap.size aw m cw bs x W hw hx.1 hx.2 (by omega) h.keep.size).mono fun e w' hp => have := h.write hR hU hs hw hp; ⟨this.1, _, _, this.2⟩
end
end Go.Proofs.Ytedhmoihlfjbdaa
namespace Go.Proofs.Ytedhmoihlfjbdaa
open Go.RowKit Go.Shelf
set_option linter.unusedVariables false
/-- The head of the imprint of l. -/
def ihd (l : List Int) : List Int := [l.getD 0 0 % 64, l.getD 1 0, l.getD 4 0, l.getD 5 0, l.getD 6 0, l.getD 7 0, ((l.length - 12 : Nat) : Int) / 256, ((l.length - 12 : Nat) : Int) % 256]
/-- An imprint's cells. -/
def ibc (h : List Int) (a : Option Addr) (n c : Nat) : Array Value := #[.int .u8 (h.getD 0 0), .int .u8 (h.getD 1 0), .int .u8 (h.getD 2 0), .int .u8 (h.getD 3 0), .int .u8 (h.getD 4 0), .int .u8 (h.getD 5 0), .int .u8 (h.getD 6 0), .int .u8 (h.getD 7 0), .slice a n c]
theorem iand63 (x : Int) (h : 0 ≤ x ∧ x < 256) : bits .and .i64 x 63 = x % 64 := by
  have e1 : (BitVec.ofInt 64 x).toNat = x.toNat := by rw [BitVec.toNat_ofInt]; omega
  have key : (BitVec.ofInt 64 x &&& BitVec.ofInt 64 63).toNat = x.toNat % 64 := by
    rw [BitVec.toNat_and, e1]; exact Nat.and_two_pow_sub_one_eq_mod x.toNat 6
  show IntKind.i64.wrap ((BitVec.ofInt 64 x &&& BitVec.ofInt 64 63).toNat : Nat) = _
  rw [key, IntKind.wrap_i64]; omega
def zbc : Array Value := #[.int .u8 0, .int .u8 0, .int .u8 0, .int .u8 0, .int .u8 0, .int .u8 0, .int .u8 0, .int .u8 0, .slice none 0 0]
theorem own_src {W : World} {base : Nat} {a : Option Addr} {n c : Nat} {l : List Int} (h : Own W base a n c l) (hn : 0 < n) : ∃ ad, a = some ad ∧ ∀ j v, (l.map (Value.int .u8))[j]? = some v → W.cell? (ad.add j) = some v := by
  rcases h.row.2 with ⟨hv, e⟩ | ⟨g, cap, cur, hv, hb, hg, rest⟩
  · omega
  · simp only [Value.slice.injEq, true_and] at hv
    obtain ⟨rfl, rfl⟩ := hv
    exact ⟨⟨g, 0, none⟩, rfl, fun j v hj => h.row.cells (g := g) rfl j v hj⟩
theorem ihd_big (l : List Int) (ho : Str.Ok l) (hl : 12 ≤ l.length) (hl2 : l.length ≤ 1500) : [] ++ Big 1 (l.getD 0 0 % 64) ++ Big 1 (l.getD 1 0) ++ Big 4 (Num ((l.drop 4).take 4)) ++ Big 2 ((l.length - 12 : Nat) : Int) = ihd l := by
  have e4 : (l.drop 4).take 4 = [l.getD 4 0, l.getD 5 0, l.getD 6 0, l.getD 7 0] := by
    rw [List.take_add_one, List.take_add_one, List.take_add_one, List.take_add_one, List.getElem?_eq_getElem (by rw [List.length_drop]; omega), List.getElem?_eq_getElem (by rw [List.length_drop]; omega), List.getElem?_eq_getElem (by rw [List.length_drop]; omega), List.getElem?_eq_getElem (by rw [List.length_drop]; omega)]
    rw [List.getD_eq_getElem?_getD, List.getD_eq_getElem?_getD, List.getD_eq_getElem?_getD, List.getD_eq_getElem?_getD, List.getElem?_eq_getElem (by omega), List.getElem?_eq_getElem (by omega), List.getElem?_eq_getElem (by omega), List.getElem?_eq_getElem (by omega)]
    simp
  have h0 := ho 0; have h1 := ho 1; have h4 := ho 4; have h5 := ho 5; have h6 := ho 6; have h7 := ho 7
  rw [e4, ihd]
  generalize l.getD 0 0 = x0 at *; generalize l.getD 1 0 = x1 at *; generalize l.getD 4 0 = x4 at *; generalize l.getD 5 0 = x5 at *; generalize l.getD 6 0 = x6 at *; generalize l.getD 7 0 = x7 at *
  have hn : (((l.length - 12 : Nat) : Int)) < 65536 ∧ 0 ≤ (((l.length - 12 : Nat) : Int)) := by omega
  generalize (((l.length - 12 : Nat) : Int)) = nn at *
  simp [Big, Num, List.range_succ]
  omega
theorem hsz8 : (Try.prog.info? 5).map (·.size) = some 1 := by kernel_rfl
set_option maxHeartbeats 400000 in
set_option maxRecDepth 100000 in
theorem readBits_ok (R U : Nat) (a : Option Addr) (n c : Nat) (l : List Int) (w : World) (h : RdAt w R U a n c l) (hn : 12 ≤ n) (hn2 : n ≤ 1500) :
    Calls Try.prog 66 #[.pointer (some ⟨R, 0, none⟩)] w (ParseOk R U 0 [] (fun v W => ∃ a' c', v = .agg (ibc (ihd l) a' (n - 12) c') ∧ Own W w.heap.size a' (n - 12) c' (l.drop 12)) w) := by
  have hR := h.ltR; have hU := h.ltU
  have hok := h.row.ok; have hln := h.row.len
  obtain ⟨w1, hw1⟩ : ∃ w1, w.alloc (.cells #[.int .u8 0, .int .u8 0, .int .u8 0, .int .u8 0, .int .u8 0, .int .u8 0, .int .u8 0, .int .u8 0, .slice none 0 0] 57) = w1 := ⟨_, rfl⟩
  have hz1 : w1.heap.size = w.heap.size + 1 := by rw [← hw1]; simp
  have hB1 : Below w.heap.size w w1 := by rw [← hw1]; exact (Below.refl _ w).alloc (Nat.le_refl _) _
  have hx1 : w1.heap[w.heap.size]? = some (.cells #[.int .u8 0, .int .u8 0, .int .u8 0, .int .u8 0, .int .u8 0, .int .u8 0, .int .u8 0, .int .u8 0, .slice none 0 0] 57 (0, 0)) := by rw [← hw1]; exact lit_new rfl
  obtain ⟨w0, hw0⟩ : ∃ w0, w1.alloc (.cells #[.slice none 0 0] 177) = w0 := ⟨_, rfl⟩
  have hB0 : Below w1.heap.size w1 w0 := by rw [← hw0]; exact (Below.refl _ w1).alloc (Nat.le_refl _) _
  have h1 := h.below hB1
  have H0 : Hid (RB w1 w0 R U (w.heap.size + 1) a n c l 0 []) := Lib.hid (hz1 ▸ (show RB w1 w0 R U w1.heap.size a n c l 0 [] from ⟨h1.below hB0, fun h0 x hx => h1.row.lt h0 x hx, ⟨none, 0, by rw [← hw0]; exact heap_alloc_new w1 _, ⟨World.ownsRow_nil _ _ _ _, Str.ok_nil⟩, fun x hx => by cases hx⟩, ⟨hB0.os, hB0.tape, hB0.output, hB0.size, fun k hk _ _ => hB0.block k hk⟩⟩))
  have HK1 := Lib.hid (show Keep2 w w1 R (some U) from ⟨hB1.os, hB1.tape, hB1.output, hB1.size, fun k hk _ _ => hB1.block k hk⟩)
  have HX1 : Hid (∀ W, Keep2 w1 W R (some U) → W.heap[w.heap.size]? = some (.cells #[.int .u8 0, .int .u8 0, .int .u8 0, .int .u8 0, .int .u8 0, .int .u8 0, .int .u8 0, .int .u8 0, .slice none 0 0] 57 (0, 0))) := Lib.hid fun W hk => (hk.block _ (by omega) (by omega) (by intro e; injection e with e; omega)).trans hx1
  have HW0 := Lib.hid hw0; have HW1 := Lib.hid hw1; have HZ1 := Lib.hid hz1
  have hR1 : R < w1.heap.size := by omega
  have hU1 : U < w1.heap.size := by omega
  have hss : w1.heap.size ≤ w.heap.size + 1 := by omega
  clear hw0 hB0 hw1 hB1 hx1 h1
  have b0 := hok 0; have b1 := hok 1
  have b4 := num_lt (hok.drop 4) 4 (by rw [List.length_drop]; omega) 4294967296 (by decide)
  obtain ⟨x0, hx0⟩ : ∃ x, l.getD 0 0 = x := ⟨_, rfl⟩
  obtain ⟨x1, hx1⟩ : ∃ x, l.getD 1 0 = x := ⟨_, rfl⟩
  obtain ⟨x2, hx2⟩ : ∃ x, Num ((l.drop 2).take 2) = x := ⟨_, rfl⟩
  obtain ⟨x4, hx4⟩ : ∃ x, Num ((l.drop 4).take 4) = x := ⟨_, rfl⟩
  obtain ⟨x8, hx8⟩ : ∃ x, Num ((l.drop 8).take 4) = x := ⟨_, rfl⟩
  rw [hx0] at b0; rw [hx1] at b1; rw [hx4] at b4
  have ha := iand63 _ b0
  obtain ⟨d1, hd1⟩ : ∃ d, l.drop 1 = d := ⟨_, rfl⟩
  obtain ⟨d2, hd2⟩ : ∃ d, l.drop 2 = d := ⟨_, rfl⟩
  obtain ⟨d4, hd4⟩ : ∃ d, l.drop 4 = d := ⟨_, rfl⟩
  obtain ⟨d8, hd8⟩ : ∃ d, l.drop 8 = d := ⟨_, rfl⟩
  obtain ⟨d12, hd12⟩ : ∃ d, l.drop 12 = d := ⟨_, rfl⟩
  obtain ⟨nn, hnn⟩ : ∃ x, n - 12 = x := ⟨_, rfl⟩
  have hw6 : IntKind.u16.wrap (nn : Int) = (nn : Int) := by simp [IntKind.wrap, IntKind.bits, IntKind.signed]; omega
  rw [hd2] at hx2; rw [hd4] at hx4; rw [hd8] at hx8
  have E : Hid (l.getD 0 0 = x0 ∧ d1.getD 0 0 = x1 ∧ Num (d2.take 2) = x2 ∧ Num (d4.take 4) = x4 ∧ Num (d8.take 4) = x8 ∧ l.drop 1 = d1 ∧ d1.drop 1 = d2 ∧ d2.drop 2 = d4 ∧ d4.drop 4 = d8 ∧ d8.drop 4 = d12) := Lib.hid ⟨hx0, by rw [← hd1, getD_drop']; exact hx1, hx2, hx4, hx8, hd1, by rw [← hd1, ← hd2, List.drop_drop], by rw [← hd2, ← hd4, List.drop_drop], by rw [← hd4, ← hd8, List.drop_drop], by rw [← hd8, ← hd12, List.drop_drop]⟩
  have HN : Hid (n - 12 = nn) := Lib.hid hnn
  have E2 : Hid (l.getD 0 0 = x0 ∧ l.getD 1 0 = x1 ∧ Num ((l.drop 4).take 4) = x4 ∧ l.drop 12 = d12) := Lib.hid ⟨hx0, hx1, by rw [hd4]; exact hx4, hd12⟩
  clear hx0 hx1 hx2 hx4 hx8 hd1 hd2 hd4 hd8 hd12
  have HL := Lib.hid hln; have HOK := Lib.hid hok
  clear h
  go_enter Try.func66, Try.ntmps66
  go_wp2_with fail
  rw [HW1.out, HW0.out]
  refine (rb_byte H0.out hR1 hss (by omega) x0 E.out.1 d1 E.out.2.2.2.2.2.1 (n - 1) rfl).mono ?_
  rintro e w2 ⟨rfl, a2, c2, h2⟩
  have H2 := Lib.hid h2; clear h2 H0
  go_wp2_with fail
  refine (rb_wbyte H2.out hR1 hU1 hss (x0 % 64) (by omega) (by omega)).mono ?_
  rintro e w3 ⟨rfl, a3, c3, h3⟩
  have H3 := Lib.hid h3; clear h3 H2
  go_wp2_with fail
  refine (rb_byte H3.out hR1 hss (by omega) x1 E.out.2.1 d2 E.out.2.2.2.2.2.2.1 (n - 2) (by omega)).mono ?_
  rintro e w4 ⟨rfl, a4, c4, h4⟩
  have H4 := Lib.hid h4; clear h4 H3
  go_wp2_with fail
  refine (rb_wbyte H4.out hR1 hU1 hss x1 (by omega) (by omega)).mono ?_
  rintro e w5 ⟨rfl, a5, c5, h5⟩
  have H5 := Lib.hid h5; clear h5 H4
  go_wp2_with fail
  refine (rb_word H5.out hR1 hss (by omega) x2 E.out.2.2.1 d4 E.out.2.2.2.2.2.2.2.1 (n - 4) (by omega)).mono ?_
  rintro e w6 ⟨rfl, a6, c6, h6⟩
  have H6 := Lib.hid h6; clear h6 H5
  go_wp2_with fail
  refine (rb_long H6.out hR1 hss (by omega) x4 E.out.2.2.2.1 d8 E.out.2.2.2.2.2.2.2.2.1 (n - 8) (by omega)).mono ?_
  rintro e w7 ⟨rfl, a7, c7, h7⟩
  have H7 := Lib.hid h7; clear h7 H6
  go_wp2_with fail
  refine (rb_wlong H7.out hR1 hU1 hss x4 b4 (by omega)).mono ?_
  rintro e w8 ⟨rfl, a8, c8, h8⟩
  have H8 := Lib.hid h8; clear h8 H7
  go_wp2_with fail
  refine (rb_long H8.out hR1 hss (by omega) x8 E.out.2.2.2.2.1 d12 E.out.2.2.2.2.2.2.2.2.2 nn (by omega)).mono ?_
  rintro e w9 ⟨rfl, a9, c9, h9⟩
  have H9 := Lib.hid h9; clear h9 H8
  go_wp2_with fail
  refine (rb_left H9.out).mono ?_
  rintro e w10 ⟨rfl, a10, c10, h10⟩
  have H10 := Lib.hid h10; clear h10 H9
  go_wp2_with fail
  refine (rb_wword H10.out hR1 hU1 hss nn (by omega) (by omega)).mono ?_
  rintro e w11 ⟨rfl, a11, c11, h11⟩
  have H11 := Lib.hid h11; clear h11 H10
  go_wp2_with fail
  refine (rb_rest H11.out hR1 hss (by omega)).mono ?_
  rintro e w12 ⟨a12, c12, rfl, hO12, hg12, a13', c13', h12⟩
  have H11s : Hid (w.heap.size + 1 ≤ w11.heap.size) := Lib.hid (by have := H11.out.keep.size; have := HZ1.out; omega)
  have hx12 := HX1.out _ h12.keep
  have H12 := Lib.hid h12; have HO12 := Lib.hid hO12
  clear h12 hO12 hg12 H11
  obtain ⟨wX, hwX⟩ : ∃ wX, w12.alloc (.cells #[.int .u8 0, .int .u8 0, .int .u8 0, .int .u8 0, .int .u8 0, .int .u8 0, .int .u8 0, .int .u8 0, .slice a12 nn c12] 57) = wX := ⟨_, rfl⟩
  have hBX : Below w12.heap.size w12 wX := by rw [← hwX]; exact (Below.refl _ w12).alloc (Nat.le_refl _) _
  have hrX : wX.heap[w12.heap.size]? = some (.cells #[.int .u8 0, .int .u8 0, .int .u8 0, .int .u8 0, .int .u8 0, .int .u8 0, .int .u8 0, .int .u8 0, .slice a12 nn c12] 57 (0, 0)) := by rw [← hwX]; exact lit_new rfl
  have HDN : Hid (∀ W, Below wX.heap.size wX W → Calls Try.prog 110 #[.pointer (some ⟨w.heap.size + 1, 0, none⟩)] W (NewB 8 (ihd l) W)) := Lib.hid fun W hW => by
    obtain ⟨aw, cw, hw⟩ := H12.out.wr
    have hb := ihd_big l HOK.out (by have := HL.out; omega) (by have := HL.out; omega)
    rw [E2.out.1, E2.out.2.1, E2.out.2.2.1, HL.out, HN.out] at hb
    rw [hb] at hw
    exact wdone_any _ _ aw _ cw _ W ((hw.below hBX).below hW) (by omega)
  have HRX := Lib.hid hrX; have HBX := Lib.hid hBX; have HWX := Lib.hid hwX
  clear hwX hrX hBX hx12
  go_upto_region 9 with (fail)
  rw [HWX.out]
  have hq : ∃ q0 q1 q2 q3 q4 q5 q6 q7, ihd l = [q0, q1, q2, q3, q4, q5, q6, q7] := ⟨_, _, _, _, _, _, _, _, rfl⟩
  obtain ⟨q0, q1, q2, q3, q4, q5, q6, q7, hq⟩ := hq
  have HQ := Lib.hid hq
  rw [hq] at HDN
  clear hq
  have hBD : Below wX.heap.size wX wX.drew := (Below.refl _ wX).drew
  have HPX : Hid (w12.heap.size ≤ wX.heap.size) := Lib.hid HBX.out.size
  go_region_law (first
    | (refine step_copy_splice rfl (.tmp 27) (.tmp 28) 26 26 rfl 5 rfl hsz8 (some ⟨w12.heap.size, 0, none⟩) a13 8 8 8 c13 (by rfl) (by rfl) w12.heap.size 0 [.int .u8 0, .int .u8 0, .int .u8 0, .int .u8 0, .int .u8 0, .int .u8 0, .int .u8 0, .int .u8 0, .slice a12 nn c12] 57 HR13.out ([q0, q1, q2, q3, q4, q5, q6, q7].map (Value.int .u8)) rfl (fun _ => ⟨rfl, HSRC.out⟩) (by simp) (by intro v hv; simp at hv; rcases hv with rfl | rfl | rfl | rfl | rfl | rfl | rfl | rfl <;> rfl) w12.heap.size w12 HB13.out (Nat.le_refl _) ?_; intro w14 hg14 hb14)
    | (go_simp; go_at_call 110; refine (HDN.out _ hBD).mono ?_; rintro e w13 ⟨a13, c13, rfl, hO13, hB13⟩; have HSRC := Lib.hid (own_src hO13 (by omega)); have HR13 := Lib.hid (((hBD.trans hB13).block _ (Array.getElem?_eq_some_iff.1 HRX.out).1).trans HRX.out); have HB13 := Lib.hid (HBX.out.trans ((hBD.trans hB13).mono HPX.out)); clear hO13 hB13))
  have hg14' := hg14.out
  have hrow : w14.heap[w12.heap.size]? = some (.cells #[.int .u8 q0, .int .u8 q1, .int .u8 q2, .int .u8 q3, .int .u8 q4, .int .u8 q5, .int .u8 q6, .int .u8 q7, .slice a12 nn c12] 57 (0, 0)) := by
    rw [hg14.out]; rfl
  have hx14 := (hb14.block w.heap.size (by have := H12.out.keep.size; omega)).trans (HX1.out _ H12.out.keep)
  have hz14 : w12.heap.size < w14.heap.size := (Array.getElem?_eq_some_iff.1 hrow).1
  clear hg14 hg14' hBD HDN HR13 HB13 HSRC HWX HRX HBX HPX
  have g0 : w14.cell? ⟨w12.heap.size, 0, none⟩ = some (.int .u8 q0) := by rw [cell_of_row w14 _ 0 _ _ _ hrow]; rfl
  have g1 : w14.cell? ⟨w12.heap.size, 1, none⟩ = some (.int .u8 q1) := by rw [cell_of_row w14 _ 1 _ _ _ hrow]; rfl
  have g2 : w14.cell? ⟨w12.heap.size, 2, none⟩ = some (.int .u8 q2) := by rw [cell_of_row w14 _ 2 _ _ _ hrow]; rfl
  have g3 : w14.cell? ⟨w12.heap.size, 3, none⟩ = some (.int .u8 q3) := by rw [cell_of_row w14 _ 3 _ _ _ hrow]; rfl
  have g4 : w14.cell? ⟨w12.heap.size, 4, none⟩ = some (.int .u8 q4) := by rw [cell_of_row w14 _ 4 _ _ _ hrow]; rfl
  have g5 : w14.cell? ⟨w12.heap.size, 5, none⟩ = some (.int .u8 q5) := by rw [cell_of_row w14 _ 5 _ _ _ hrow]; rfl
  have g6 : w14.cell? ⟨w12.heap.size, 6, none⟩ = some (.int .u8 q6) := by rw [cell_of_row w14 _ 6 _ _ _ hrow]; rfl
  have g7 : w14.cell? ⟨w12.heap.size, 7, none⟩ = some (.int .u8 q7) := by rw [cell_of_row w14 _ 7 _ _ _ hrow]; rfl
  have g8 : w14.cell? ⟨w12.heap.size, 8, none⟩ = some (.slice a12 nn c12) := by rw [cell_of_row w14 _ 8 _ _ _ hrow]; rfl
  have y0 : w14.cell? ⟨w.heap.size, 0, none⟩ = some (.int .u8 0) := by rw [cell_of_row w14 _ 0 _ _ _ hx14]; rfl
  have y1 : w14.cell? ⟨w.heap.size, 1, none⟩ = some (.int .u8 0) := by rw [cell_of_row w14 _ 1 _ _ _ hx14]; rfl
  have y2 : w14.cell? ⟨w.heap.size, 2, none⟩ = some (.int .u8 0) := by rw [cell_of_row w14 _ 2 _ _ _ hx14]; rfl
  have y3 : w14.cell? ⟨w.heap.size, 3, none⟩ = some (.int .u8 0) := by rw [cell_of_row w14 _ 3 _ _ _ hx14]; rfl
  have y4 : w14.cell? ⟨w.heap.size, 4, none⟩ = some (.int .u8 0) := by rw [cell_of_row w14 _ 4 _ _ _ hx14]; rfl
  have y5 : w14.cell? ⟨w.heap.size, 5, none⟩ = some (.int .u8 0) := by rw [cell_of_row w14 _ 5 _ _ _ hx14]; rfl
  have y6 : w14.cell? ⟨w.heap.size, 6, none⟩ = some (.int .u8 0) := by rw [cell_of_row w14 _ 6 _ _ _ hx14]; rfl
  have y7 : w14.cell? ⟨w.heap.size, 7, none⟩ = some (.int .u8 0) := by rw [cell_of_row w14 _ 7 _ _ _ hx14]; rfl
  have y8 : w14.cell? ⟨w.heap.size, 8, none⟩ = some (.slice none 0 0) := by rw [cell_of_row w14 _ 8 _ _ _ hx14]; rfl
  have fB : ∀ o, w14.frozen? ⟨w.heap.size, o, none⟩ = false := fun o => frozen_of_row w14 _ o _ _ hx14
  have HX14 := Lib.hid hx14; have HB14 := Lib.hid hb14
  clear hx14 hb14 hrow
  go_wp2_with fail
  obtain ⟨w15, hw15⟩ : ∃ w15, putL w14 w.heap.size 0 [.int .u8 q0, .int .u8 q1, .int .u8 q2, .int .u8 q3, .int .u8 q4, .int .u8 q5, .int .u8 q6, .int .u8 q7, .slice a12 nn c12] = w15 := ⟨_, rfl⟩
  have P15 : Put w14 w15 w.heap.size #[.int .u8 q0, .int .u8 q1, .int .u8 q2, .int .u8 q3, .int .u8 q4, .int .u8 q5, .int .u8 q6, .int .u8 q7, .slice a12 nn c12] 57 := by rw [← hw15]; exact putL_is (us := [.int .u8 0, .int .u8 0, .int .u8 0, .int .u8 0, .int .u8 0, .int .u8 0, .int .u8 0, .int .u8 0, .slice none 0 0]) HX14.out rfl
  simp only [putL, Nat.zero_add, Nat.reduceAdd] at hw15
  rw [hw15]
  have q15 := P15.row
  have hsz12 : w.heap.size + 1 ≤ w12.heap.size := by have := H12.out.keep.size; have := HZ1.out; omega
  have hK14 : Keep2 w1 w14 R (some U) := keep2_trans H12.out.keep ⟨HB14.out.os, HB14.out.tape, HB14.out.output, HB14.out.size, fun k hk _ _ => HB14.out.block k hk⟩
  have hK15 : Keep2 w w15 R (some U) := by
    have h1 := keep2_trans HK1.out hK14
    exact ⟨P15.grown.os.trans h1.os, P15.grown.tape.trans h1.tape, P15.grown.output.trans h1.output, Nat.le_trans h1.size P15.grown.size, fun k hk k1 k2 => (P15.grown.block k (by have := h1.size; omega) (by intro e; injection e with e; omega)).trans (h1.block k hk k1 k2)⟩
  have hR14 := H12.out.rd.below HB14.out
  have hR15 : RdAt w15 R U a13' 0 c13' [] := ⟨(P15.grown.block R (by omega) (by intro e; injection e with e; omega)).trans hR14.rd, (P15.grown.block U (by omega) (by intro e; injection e with e; omega)).trans hR14.run, hR14.ne, hR14.row.same P15.grown.size (fun x h0 _ _ => by omega), hR14.cap, fun h0 => by omega⟩
  have hO15 : Own w15 w.heap.size a12 nn c12 d12 := ((HO12.out.below HB14.out).off P15.grown (by have := H11s.out; omega)).mono (by have := H11s.out; omega)
  have HF : Hid (ParseOk R U 0 [] (fun v W => ∃ a' c', v = .agg (ibc (ihd l) a' (n - 12) c') ∧ Own W w.heap.size a' (n - 12) c' (l.drop 12)) w (.returned (.agg #[.int .u8 q0, .int .u8 q1, .int .u8 q2, .int .u8 q3, .int .u8 q4, .int .u8 q5, .int .u8 q6, .int .u8 q7, .slice a12 nn c12])) w15) := Lib.hid (by
    refine ⟨_, _, _, rfl, hR15, hK15, a12, c12, ?_, ?_⟩
    · rw [HQ.out, HN.out]; rfl
    · rw [HN.out, E2.out.2.2.2]; exact hO15)
  clear hw15 P15 hK14 hK15 hR14 hR15 hO15 fB
  clear g0 y0 g1 y1 g2 y2 g3 y3 g4 y4 g5 y5 g6 y6 g7 y7 g8 y8
  have f0 : w15.cell? ⟨w.heap.size, 0, none⟩ = some (.int .u8 q0) := by rw [cell_of_row w15 _ 0 _ _ _ q15]; rfl
  have f1 : w15.cell? ⟨w.heap.size, 1, none⟩ = some (.int .u8 q1) := by rw [cell_of_row w15 _ 1 _ _ _ q15]; rfl
  have f2 : w15.cell? ⟨w.heap.size, 2, none⟩ = some (.int .u8 q2) := by rw [cell_of_row w15 _ 2 _ _ _ q15]; rfl
  have f3 : w15.cell? ⟨w.heap.size, 3, none⟩ = some (.int .u8 q3) := by rw [cell_of_row w15 _ 3 _ _ _ q15]; rfl
  have f4 : w15.cell? ⟨w.heap.size, 4, none⟩ = some (.int .u8 q4) := by rw [cell_of_row w15 _ 4 _ _ _ q15]; rfl
  have f5 : w15.cell? ⟨w.heap.size, 5, none⟩ = some (.int .u8 q5) := by rw [cell_of_row w15 _ 5 _ _ _ q15]; rfl
  have f6 : w15.cell? ⟨w.heap.size, 6, none⟩ = some (.int .u8 q6) := by rw [cell_of_row w15 _ 6 _ _ _ q15]; rfl
  have f7 : w15.cell? ⟨w.heap.size, 7, none⟩ = some (.int .u8 q7) := by rw [cell_of_row w15 _ 7 _ _ _ q15]; rfl
  have f8 : w15.cell? ⟨w.heap.size, 8, none⟩ = some (.slice a12 nn c12) := by rw [cell_of_row w15 _ 8 _ _ _ q15]; rfl
  clear q15
  exact bodyPost_ret (v := .agg #[.int .u8 q0, .int .u8 q1, .int .u8 q2, .int .u8 q3, .int .u8 q4, .int .u8 q5, .int .u8 q6, .int .u8 q7, .slice a12 nn c12]) (by simp [results, Try.results66, go_sem, f0, f1, f2, f3, f4, f5, f6, f7, f8]) rfl HF.out
end Go.Proofs.Ytedhmoihlfjbdaa


/-
  Steps and what was got, in memory; what steps write, by the law's own write and by the reference.
-/
import Derived.Test.YtknpdcnhdmbbiaaWireRef
namespace Go.Proofs.Ytknpdcnhdmbbiaa
open Go.RowKit Go.Shelf
set_option linter.unusedVariables false
def StAt (W : World) (a : Option Addr) (n : Nat) (ks ns : Nat → Int) : Prop :=
  ∃ b o, ∀ i, i < n → a = some ⟨b, o, none⟩ ∧ b < W.heap.size ∧ W.cell? ⟨b, o + i * 2, none⟩ = some (.int .i64 (ks i)) ∧ W.cell? ⟨b, o + i * 2 + 1, none⟩ = some (.int .i64 (ns i))
theorem StAt.below {W W' : World} {a : Option Addr} {n : Nat} {ks ns : Nat → Int} (h : StAt W a n ks ns) (hb : Below W.heap.size W W') : StAt W' a n ks ns := by
  obtain ⟨b, o, hr⟩ := h
  refine ⟨b, o, fun i hi => ?_⟩
  obtain ⟨h1, h2, h3, h4⟩ := hr i hi
  exact ⟨h1, by have := hb.size; omega, (hb.cell (p := ⟨b, o + i * 2, none⟩) h2).trans h3, (hb.cell (p := ⟨b, o + i * 2 + 1, none⟩) h2).trans h4⟩
def GtAt (W : World) (a : Option Addr) (n : Nat) (xs : Nat → Int) (A : Nat → Option Addr) (L C : Nat → Nat) (bs : Nat → List Int) : Prop :=
  ∃ b o, ∀ i, i < n → a = some ⟨b, o, none⟩ ∧ b < W.heap.size ∧ W.cell? ⟨b, o + i * 2, none⟩ = some (.int .u64 (xs i)) ∧ W.cell? ⟨b, o + i * 2 + 1, none⟩ = some (.slice (A i) (L i) (C i)) ∧ 0 ≤ xs i ∧ xs i < 18446744073709551616 ∧ BAt W (A i) (L i) (bs i)
theorem GtAt.below {W W' : World} {a : Option Addr} {n : Nat} {xs : Nat → Int} {A : Nat → Option Addr} {L C : Nat → Nat} {bs : Nat → List Int} (h : GtAt W a n xs A L C bs) (hb : Below W.heap.size W W') : GtAt W' a n xs A L C bs := by
  obtain ⟨b, o, hr⟩ := h
  refine ⟨b, o, fun i hi => ?_⟩
  obtain ⟨h1, h2, h3, h4, h5, h6, h7⟩ := hr i hi
  exact ⟨h1, by have := hb.size; omega, (hb.cell (p := ⟨b, o + i * 2, none⟩) h2).trans h3, (hb.cell (p := ⟨b, o + i * 2 + 1, none⟩) h2).trans h4, h5, h6, h7.below hb⟩
/-- What one step writes. -/
def wr1 (k x : Int) (b : List Int) : List Int := if k = 1 then Big 1 x else if k = 2 then Big 2 x else if k = 4 then Big 4 x else if k = 8 then Big 8 x else if k = 0 then b else []
def Wr (ks xs : Nat → Int) (bs : Nat → List Int) : Nat → List Int
  | 0 => []
  | i + 1 => Wr ks xs bs i ++ wr1 (ks i) (xs i) (bs i)
theorem wr1_len (k x : Int) (b : List Int) (h : b.length ≤ 200) : (wr1 k x b).length ≤ 200 := by
  unfold wr1
  split; · rw [Big_len]; omega
  split; · rw [Big_len]; omega
  split; · rw [Big_len]; omega
  split; · rw [Big_len]; omega
  split; · exact h
  simp
theorem Big1 (x : Int) : Big 1 x = [x % 256] := by simp [Big]
theorem Big2 (x : Int) : Big 2 x = [x / 256 % 256, x % 256] := by simp [Big, List.range_succ]
theorem Big4 (x : Int) : Big 4 x = [x / 16777216 % 256, x / 65536 % 256, x / 256 % 256, x % 256] := by simp [Big, List.range_succ]
theorem Big1_mod (x : Int) : Big 1 (x % 65536) = Big 1 x := by rw [Big1, Big1]; congr 1; omega
theorem Big2_mod (x : Int) : Big 2 (x % 65536) = Big 2 x := by
  rw [Big2, Big2]; congr 1
  · omega
  · congr 1; omega
theorem Big4_mod (x : Int) : Big 4 (x % 4294967296) = Big 4 x := by
  rw [Big4, Big4]; congr 1
  · omega
  · congr 1
    · omega
    · congr 1
      · omega
      · congr 1; omega
theorem and65535u (n : Int) (h : 0 ≤ n) (h' : n < 18446744073709551616) : bits .and .u64 n 65535 = n % 65536 := by
  have hmn : (BitVec.ofInt 64 (65535 : Int)).toNat = 2 ^ 16 - 1 := by decide
  have key : (BitVec.ofInt 64 n &&& BitVec.ofInt 64 (65535 : Int)).toNat = (n % ((2 ^ 64 : Nat) : Int)).toNat % 2 ^ 16 := by
    rw [BitVec.toNat_and, BitVec.toNat_ofInt, hmn, Nat.and_two_pow_sub_one_eq_mod]
  show IntKind.u64.wrap ((BitVec.ofInt 64 n &&& BitVec.ofInt 64 (65535 : Int)).toNat : Nat) = _
  rw [key]
  have : ∀ n : Int, IntKind.u64.wrap n = n % 18446744073709551616 := fun n => by simp [IntKind.wrap, IntKind.bits, IntKind.signed]
  rw [this]; omega
def WriteSt (w : World) (s : Nat) (l : List Int) (n : Nat) (W : World) : Prop := ∃ a c, WrAt W s w.heap.size a n c l ∧ Below w.heap.size w W
theorem WriteSt.step {w W w' : World} {s n m : Nat} {l l' : List Int} {a : Option Addr} {c : Nat} (hs : w.heap.size ≤ s) (h : WrAt W s w.heap.size a n c l) (hb : Below w.heap.size w W) {e : Ending} (hp : WrPost s w.heap.size m l' W (a.map (·.block)) e w') : e = .returned (.tuple #[]) ∧ WriteSt w s l' m w' := by
  obtain ⟨he, a', c', h1, h2, h3⟩ := hp
  refine ⟨he, a', c', h1, hb.trans (h2.below hs (fun x e => ?_) hb.size)⟩
  cases a with
  | none => cases e
  | some y => have := (h.own.blk y rfl).1; simp at e; omega
def WritePost (l : List Int) (w : World) (e : Ending) (w' : World) : Prop := ∃ s, e = .returned (.pointer (some ⟨s, 0, none⟩)) ∧ w.heap.size ≤ s ∧ WriteSt w s l l.length w'
set_option maxHeartbeats 2000000 in
set_option maxRecDepth 100000 in
theorem write_any (a0 : Option Addr) (n0 c0 : Nat) (ks ns : Nat → Int) (a1 : Option Addr) (n1 c1 : Nat) (xs : Nat → Int) (A : Nat → Option Addr) (L C : Nat → Nat) (bs : Nat → List Int) (w : World)
    (hs : StAt w a0 n0 ks ns) (hg : GtAt w a1 n1 xs A L C bs) (hn0 : n0 ≤ 100) (hn1 : n1 ≤ 9223372036854775807) (hL : ∀ i, i < n0 → i < n1 → L i ≤ 200) (m : Nat) (hm : min n0 n1 = m) :
    Calls Try.prog 15 #[.slice a0 n0 c0, .slice a1 n1 c1] w (WritePost (Wr ks xs bs m) w) := by
  have HS := Lib.hid hs; have HG := Lib.hid hg; have HL := Lib.hid hL; have HM := Lib.hid hm; clear hs hg hL hm
  go_enter Try.func15, Try.ntmps15
  go_wp2
  go_loopw [12] (fun iv wr => ∃ (i n' : Nat), i ≤ n0 ∧ i ≤ n1 ∧ n' ≤ 200 * i ∧ iv = .int .i64 i ∧ Hid (WriteSt w w.heap.size (Wr ks xs bs i) n' wr)) (fun iv _ => n0 - (intOf iv).toNat)
  case atStart => exact ⟨0, 0, Nat.zero_le _, Nat.zero_le _, Nat.zero_le _, rfl, Lib.hid ⟨none, 0, ⟨heap_alloc_new w _, ⟨World.ownsRow_nil _ _ _ _, Str.ok_nil⟩, fun x hx => by cases hx⟩, (Below.refl _ w).alloc (Nat.le_refl _) _⟩⟩
  case round =>
    obtain ⟨i, n', hi0, hi1, hn', rfl, HW⟩ := hrel
    by_cases hlt : i < n0
    · have hltz : (i : Int) < (n0 : Int) := by omega
      obtain ⟨_, _, _, hBw0⟩ := HW.out
      obtain ⟨b0, o0, hr0⟩ := HS.out
      obtain ⟨rfl, hb0, k0, k1⟩ := hr0 i hlt
      have d0 : wr.cell? ⟨b0, o0 + i * 2, none⟩ = some (.int .i64 (ks i)) := (hBw0.cell (p := ⟨b0, o0 + i * 2, none⟩) hb0).trans k0
      have d1 : wr.cell? ⟨b0, o0 + i * 2 + 1, none⟩ = some (.int .i64 (ns i)) := (hBw0.cell (p := ⟨b0, o0 + i * 2 + 1, none⟩) hb0).trans k1
      clear hr0 k0 k1
      obtain ⟨k, hk⟩ : ∃ k, ks i = k := ⟨_, rfl⟩
      obtain ⟨nn, hnn⟩ : ∃ k, ns i = k := ⟨_, rfl⟩
      rw [hk] at d0
      rw [hnn] at d1
      have HK := Lib.hid hk; clear hk hnn
      by_cases hlt1 : i < n1
      · have hlt1z : ¬ (n1 : Int) ≤ (i : Int) := by omega
        obtain ⟨b1, o1, hr1⟩ := HG.out
        obtain ⟨rfl, hb1, g0, g1, hx0, hx1, hba⟩ := hr1 i hlt1
        have hbw1 : b1 < wr.heap.size := Nat.lt_of_lt_of_le hb1 hBw0.size
        have e0 : ∀ o, (wr.alloc o).cell? ⟨b1, o1 + i * 2, none⟩ = some (.int .u64 (xs i)) := fun o => (World.cell?_of_block (w := wr) (a := ⟨b1, o1 + i * 2, none⟩) (Below.heap_alloc wr o b1 hbw1)).trans ((hBw0.cell (p := ⟨b1, o1 + i * 2, none⟩) hb1).trans g0)
        have e1 : ∀ o, (wr.alloc o).cell? ⟨b1, o1 + i * 2 + 1, none⟩ = some (.slice (A i) (L i) (C i)) := fun o => (World.cell?_of_block (w := wr) (a := ⟨b1, o1 + i * 2 + 1, none⟩) (Below.heap_alloc wr o b1 hbw1)).trans ((hBw0.cell (p := ⟨b1, o1 + i * 2 + 1, none⟩) hb1).trans g1)
        have hli := HL.out i hlt hlt1
        have hba := hba.below hBw0
        obtain ⟨x, hx⟩ : ∃ x, xs i = x := ⟨_, rfl⟩
        obtain ⟨bi, hbi⟩ : ∃ x, bs i = x := ⟨_, rfl⟩
        rw [hx] at e0 hx0 hx1
        rw [hbi] at hba
        have HX := Lib.hid hx; have HBI := Lib.hid hbi; have HBA := Lib.hid hba
        clear hr1 g0 g1 hx hbi hba
        generalize A i = ai at e1 HBA
        generalize L i = li at e1 HBA hli
        generalize C i = ci at e1
        clear hBw0
        rcases (show k = 1 ∨ k = 2 ∨ k = 4 ∨ k = 8 ∨ k = 0 ∨ (k ≠ 1 ∧ k ≠ 2 ∧ k ≠ 4 ∧ k ≠ 8 ∧ k ≠ 0) by omega) with h | h | h | h | h | h
        · obtain rfl : k = 1 := by assumption
          have hst : Wr ks xs bs (i + 1) = Wr ks xs bs i ++ Big 1 x := by show Wr ks xs bs i ++ wr1 (ks i) (xs i) (bs i) = _; rw [HK.out, HX.out]; rfl
          have HSTP := Lib.hid hst; clear hst
          obtain ⟨aw, cw, hWr, hBw⟩ := HW.out
          have hWr1 := hWr.below ((Below.refl _ wr).alloc (Nat.le_refl _) (.cells #[.int .i64 (1), .int .i64 nn] 40))
          have hBw1 : Below w.heap.size w (wr.alloc (.cells #[.int .i64 (1), .int .i64 nn] 40)) := hBw.alloc hBw.size _
          have hand := and65535u x hx0 hx1
          have hm0 : 0 ≤ x % 65536 := by omega
          have hm1 : x % 65536 < 65536 := by omega
          have hcall := wbyte_any w.heap.size w.heap.size aw n' cw _ (x % 65536) _ hWr1 (by omega) (by omega) (by omega) hBw1.size
          rw [Big1_mod] at hcall
          have HC := Lib.hid hcall; have HWR1 := Lib.hid hWr1; have HBW1 := Lib.hid hBw1
          clear hcall hWr hBw hWr1 hBw1
          go_wp2_with fail
          refine (HC.out).mono ?_
          intro e w5 hp
          obtain ⟨rfl, hst5⟩ := WriteSt.step (Nat.le_refl _) HWR1.out HBW1.out hp
          have HST5 := Lib.hid hst5; clear hst5 hp
          go_wp2
          go_roundw
          case rel => exact ⟨i + 1, n' + 1, by omega, by omega, by omega, by go_num, Lib.hid (HSTP.out ▸ HST5.out)⟩
          case measure => simp [intOf]; omega
        · obtain rfl : k = 2 := by assumption
          have hst : Wr ks xs bs (i + 1) = Wr ks xs bs i ++ Big 2 x := by show Wr ks xs bs i ++ wr1 (ks i) (xs i) (bs i) = _; rw [HK.out, HX.out]; rfl
          have HSTP := Lib.hid hst; clear hst
          obtain ⟨aw, cw, hWr, hBw⟩ := HW.out
          have hWr1 := hWr.below ((Below.refl _ wr).alloc (Nat.le_refl _) (.cells #[.int .i64 (2), .int .i64 nn] 40))
          have hBw1 : Below w.heap.size w (wr.alloc (.cells #[.int .i64 (2), .int .i64 nn] 40)) := hBw.alloc hBw.size _
          have hu : IntKind.u16.wrap x = x % 65536 := by simp [IntKind.wrap, IntKind.bits, IntKind.signed]
          have hcall := wword_any w.heap.size w.heap.size aw n' cw _ (x % 65536) _ hWr1 (by omega) (by omega) (by omega) hBw1.size
          rw [Big2_mod] at hcall
          have HC := Lib.hid hcall; have HWR1 := Lib.hid hWr1; have HBW1 := Lib.hid hBw1
          clear hcall hWr hBw hWr1 hBw1
          go_wp2_with fail
          refine (HC.out).mono ?_
          intro e w5 hp
          obtain ⟨rfl, hst5⟩ := WriteSt.step (Nat.le_refl _) HWR1.out HBW1.out hp
          have HST5 := Lib.hid hst5; clear hst5 hp
          go_wp2
          go_roundw
          case rel => exact ⟨i + 1, n' + 2, by omega, by omega, by omega, by go_num, Lib.hid (HSTP.out ▸ HST5.out)⟩
          case measure => simp [intOf]; omega
        · obtain rfl : k = 4 := by assumption
          have hst : Wr ks xs bs (i + 1) = Wr ks xs bs i ++ Big 4 x := by show Wr ks xs bs i ++ wr1 (ks i) (xs i) (bs i) = _; rw [HK.out, HX.out]; rfl
          have HSTP := Lib.hid hst; clear hst
          obtain ⟨aw, cw, hWr, hBw⟩ := HW.out
          have hWr1 := hWr.below ((Below.refl _ wr).alloc (Nat.le_refl _) (.cells #[.int .i64 (4), .int .i64 nn] 40))
          have hBw1 : Below w.heap.size w (wr.alloc (.cells #[.int .i64 (4), .int .i64 nn] 40)) := hBw.alloc hBw.size _
          have hu : IntKind.u32.wrap x = x % 4294967296 := by simp [IntKind.wrap, IntKind.bits, IntKind.signed]
          have hcall := wlong_any w.heap.size w.heap.size aw n' cw _ (x % 4294967296) _ hWr1 (by omega) (by omega) (by omega) hBw1.size
          rw [Big4_mod] at hcall
          have HC := Lib.hid hcall; have HWR1 := Lib.hid hWr1; have HBW1 := Lib.hid hBw1
          clear hcall hWr hBw hWr1 hBw1
          go_wp2_with fail
          refine (HC.out).mono ?_
          intro e w5 hp
          obtain ⟨rfl, hst5⟩ := WriteSt.step (Nat.le_refl _) HWR1.out HBW1.out hp
          have HST5 := Lib.hid hst5; clear hst5 hp
          go_wp2
          go_roundw
          case rel => exact ⟨i + 1, n' + 4, by omega, by omega, by omega, by go_num, Lib.hid (HSTP.out ▸ HST5.out)⟩
          case measure => simp [intOf]; omega
        · obtain rfl : k = 8 := by assumption
          have hst : Wr ks xs bs (i + 1) = Wr ks xs bs i ++ Big 8 x := by show Wr ks xs bs i ++ wr1 (ks i) (xs i) (bs i) = _; rw [HK.out, HX.out]; rfl
          have HSTP := Lib.hid hst; clear hst
          obtain ⟨aw, cw, hWr, hBw⟩ := HW.out
          have hWr1 := hWr.below ((Below.refl _ wr).alloc (Nat.le_refl _) (.cells #[.int .i64 (8), .int .i64 nn] 40))
          have hBw1 : Below w.heap.size w (wr.alloc (.cells #[.int .i64 (8), .int .i64 nn] 40)) := hBw.alloc hBw.size _
          have hcall := wwide_any w.heap.size w.heap.size aw n' cw _ x _ hWr1 (by omega) (by omega) hBw1.size
          have HC := Lib.hid hcall; have HWR1 := Lib.hid hWr1; have HBW1 := Lib.hid hBw1
          clear hcall hWr hBw hWr1 hBw1
          go_wp2_with fail
          refine (HC.out).mono ?_
          intro e w5 hp
          obtain ⟨rfl, hst5⟩ := WriteSt.step (Nat.le_refl _) HWR1.out HBW1.out hp
          have HST5 := Lib.hid hst5; clear hst5 hp
          go_wp2
          go_roundw
          case rel => exact ⟨i + 1, n' + 8, by omega, by omega, by omega, by go_num, Lib.hid (HSTP.out ▸ HST5.out)⟩
          case measure => simp [intOf]; omega
        · obtain rfl : k = 0 := by assumption
          have hst : Wr ks xs bs (i + 1) = Wr ks xs bs i ++ bi := by show Wr ks xs bs i ++ wr1 (ks i) (xs i) (bs i) = _; rw [HK.out, HX.out, HBI.out]; rfl
          have HSTP := Lib.hid hst; clear hst
          obtain ⟨aw, cw, hWr, hBw⟩ := HW.out
          have hWr1 := hWr.below ((Below.refl _ wr).alloc (Nat.le_refl _) (.cells #[.int .i64 (0), .int .i64 nn] 40))
          have hBw1 : Below w.heap.size w (wr.alloc (.cells #[.int .i64 (0), .int .i64 nn] 40)) := hBw.alloc hBw.size _
          have hcall := wput_any w.heap.size w.heap.size aw n' cw _ ai li ci bi _ hWr1 (HBA.out.below ((Below.refl _ wr).alloc (Nat.le_refl _) _)) (by omega) hBw1.size
          have HC := Lib.hid hcall; have HWR1 := Lib.hid hWr1; have HBW1 := Lib.hid hBw1
          clear hcall hWr hBw hWr1 hBw1
          go_wp2_with fail
          refine (HC.out).mono ?_
          intro e w5 hp
          obtain ⟨rfl, hst5⟩ := WriteSt.step (Nat.le_refl _) HWR1.out HBW1.out hp
          have HST5 := Lib.hid hst5; clear hst5 hp
          go_wp2
          go_roundw
          case rel => exact ⟨i + 1, n' + li, by omega, by omega, by omega, by go_num, Lib.hid (HSTP.out ▸ HST5.out)⟩
          case measure => simp [intOf]; omega
        · obtain ⟨h1, h2, h4, h8, hz⟩ := h
          have f1 : (k == 1) = false := by simpa using h1
          have f2 : (k == 2) = false := by simpa using h2
          have f4 : (k == 4) = false := by simpa using h4
          have f8 : (k == 8) = false := by simpa using h8
          have f0 : (k == 0) = false := by simpa using hz
          have hst : Wr ks xs bs (i + 1) = Wr ks xs bs i := by
            show Wr ks xs bs i ++ wr1 (ks i) (xs i) (bs i) = _
            rw [HK.out]; unfold wr1; rw [if_neg h1, if_neg h2, if_neg h4, if_neg h8, if_neg hz, List.append_nil]
          have HSTP := Lib.hid hst
          obtain ⟨aw, cw, hWr, hBw⟩ := HW.out
          have HST5 := Lib.hid (show WriteSt w w.heap.size (Wr ks xs bs i) n' (wr.alloc (.cells #[.int .i64 k, .int .i64 nn] 40)) from ⟨aw, cw, hWr.below ((Below.refl _ wr).alloc (Nat.le_refl _) _), hBw.alloc hBw.size _⟩)
          clear hst h1 h2 h4 h8 hz hWr hBw
          go_wp2
          go_roundw
          case rel => exact ⟨i + 1, n', by omega, by omega, by omega, by go_num, Lib.hid (HSTP.out ▸ HST5.out)⟩
          case measure => simp [intOf]; omega
      · have hlt1z : (n1 : Int) ≤ (i : Int) := by omega
        obtain rfl : i = n1 := by omega
        obtain ⟨aw, cw, hWr, hBw⟩ := HW.out
        have hln := hWr.own.len
        have HF := Lib.hid (show WritePost (Wr ks xs bs m) w (.returned (.pointer (some ⟨w.heap.size, 0, none⟩))) (wr.alloc (.cells #[.int .i64 k, .int .i64 nn] 40)) from by
          rw [← HM.out, Nat.min_eq_right (by omega)]
          exact ⟨_, rfl, Nat.le_refl _, aw, cw, by rw [hln]; exact hWr.below ((Below.refl _ wr).alloc (Nat.le_refl _) _), hBw.alloc hBw.size _⟩)
        clear hWr hBw hBw0 hln
        go_wp2
        go_ret
        exact HF.out
    · have hltz : ¬ (i : Int) < (n0 : Int) := by omega
      obtain rfl : i = n0 := by omega
      obtain ⟨aw, cw, hWr, hBw⟩ := HW.out
      have hln := hWr.own.len
      have HF := Lib.hid (show WritePost (Wr ks xs bs m) w (.returned (.pointer (some ⟨w.heap.size, 0, none⟩))) wr from by
        rw [← HM.out, Nat.min_eq_left hi1]
        exact ⟨_, rfl, Nat.le_refl _, aw, cw, by rw [hln]; exact hWr, hBw⟩)
      clear hWr hBw hln
      go_wp2
      go_ret
      exact HF.out
end Go.Proofs.Ytknpdcnhdmbbiaa

/-
  WireReads' walk.
-/
import Derived.Test.YthfiahdeggmmcaaWireReads0
namespace Go.Proofs.Ythfiahdeggmmcaa
open Go.RowKit Go.Shelf
set_option linter.unusedVariables false
def WrSt (w : World) (a : Option Addr) (n : Nat) (l : List Int) (a0 : Option Addr) (n0 : Nat) (ks ns : Nat → Int) (W : World) : Prop :=
  BAt W a n l ∧ StAt W a0 n0 ks ns ∧ Below w.heap.size w W
theorem WrSt.below {w : World} {a : Option Addr} {n : Nat} {l : List Int} {a0 : Option Addr} {n0 : Nat} {ks ns : Nat → Int} {W W' : World} (h : WrSt w a n l a0 n0 ks ns W) (hb : Below W.heap.size W W') : WrSt w a n l a0 n0 ks ns W' :=
  ⟨h.1.below hb, h.2.1.below hb, h.2.2.trans (hb.mono h.2.2.size)⟩
/-- The gots while their bytes are spoilt. -/
structure SpSt (base no : Nat) (a : Option Addr) (c : Nat) (xs : Nat → Int) (bs : Nat → List Int) (A : Nat → Option Addr) (C : Nat → Nat) (W0 W : World) : Prop where
  row : W.ownsRow base 41 2 (.slice a no c) no (gcells xs A bs C no)
  each : ∀ j, j < no → (∃ l', Own W base (A j) (bs j).length (C j) l') ∧ ∀ y z, a = some y → A j = some z → y.block ≠ z.block
  low : Below base W0 W
theorem SpSt.below {base no : Nat} {a : Option Addr} {c : Nat} {xs : Nat → Int} {bs : Nat → List Int} {A : Nat → Option Addr} {C : Nat → Nat} {W0 W W' : World} (h : SpSt base no a c xs bs A C W0 W) (hb : Below W.heap.size W W') (hz : base ≤ W.heap.size) : SpSt base no a c xs bs A C W0 W' :=
  ⟨h.row.kept (grown_below hb none) (by cases a <;> simp [Value.ownBlock]), fun j hj => ⟨by obtain ⟨l', h'⟩ := (h.each j hj).1; exact ⟨l', h'.below hb⟩, (h.each j hj).2⟩, h.low.trans (hb.mono hz)⟩
theorem SpSt.at {base no : Nat} {a : Option Addr} {c : Nat} {xs : Nat → Int} {bs : Nat → List Int} {A : Nat → Option Addr} {C : Nat → Nat} {W0 W : World} (h : SpSt base no a c xs bs A C W0 W) (k : Nat) (hk : k < no) : ∃ g, a = some ⟨g, 0, none⟩ ∧ W.cell? ⟨g, k * 2, none⟩ = some (.int .u64 (xs k)) ∧ W.cell? ⟨g, k * 2 + 1, none⟩ = some (.slice (A k) (bs k).length (C k)) := by
  have ho := h.row
  rcases ho.2 with ⟨e, e2⟩ | ⟨g, cap, cur, e, hb, hg, _⟩
  · omega
  · simp at e
    obtain ⟨rfl, rfl⟩ := e
    have hc := ho.cells (g := g) rfl
    obtain ⟨c0, c1⟩ := gcells_at xs A bs C no k hk
    have d0 := hc _ _ c0
    have d1 := hc _ _ c1
    rw [add_none, Nat.zero_add] at d0 d1
    exact ⟨g, rfl, d0, d1⟩
theorem SpSt.set {base no : Nat} {a : Option Addr} {c : Nat} {xs : Nat → Int} {bs : Nat → List Int} {A : Nat → Option Addr} {C : Nat → Nat} {W0 W : World} (h : SpSt base no a c xs bs A C W0 W) (k : Nat) (hk : k < no) (g i : Nat) (hA : A k = some ⟨g, 0, none⟩) (x : Int) (hx : 0 ≤ x ∧ x < 256) : SpSt base no a c xs bs A C W0 (W.setCell ⟨g, i, none⟩ (.int .u8 x)) := by
  have hg : W.grownBy (W.setCell ⟨g, i, none⟩ (.int .u8 x)) (some g) := ⟨rfl, rfl, rfl, by simp, fun j _ hj => Below.heap_setCell W _ _ j (fun e => hj (by rw [e]))⟩
  obtain ⟨lk, hOk⟩ := (h.each k hk).1
  refine ⟨h.row.kept hg (.inr ?_), fun j hj => ⟨?_, (h.each j hj).2⟩, h.low.setCell (by have := (hOk.blk _ hA).1; exact this) _⟩
  · cases a with
    | none => simp [Value.ownBlock]
    | some y => have := (h.each k hk).2 y _ rfl hA; simpa [Value.ownBlock] using this
  · obtain ⟨l', hO⟩ := (h.each j hj).1
    by_cases e : ∃ z, A j = some z ∧ z.block = g
    · obtain ⟨z, hz, rfl⟩ := e
      rcases hO.row.2 with ⟨e', _⟩ | ⟨g', cap, cur, e', _⟩
      · rw [hz] at e'; simp at e'
      · rw [hz] at e'
        simp at e'
        obtain ⟨rfl, _⟩ := e'
        rw [hz] at hO ⊢
        exact ⟨_, hO.set i x hx⟩
    · exact ⟨l', hO.kept hg fun y hy e' => e ⟨y, hy, by simpa using e'.symm⟩⟩
set_option maxHeartbeats 4000000 in
set_option maxRecDepth 100000 in
theorem reads_any (a : Option Addr) (n c : Nat) (l : List Int) (a0 : Option Addr) (n0 c0 : Nat) (ks ns : Nat → Int) (w : World) (hb : BAt w a n l) (hc : n ≤ c) (hs : StAt w a0 n0 ks ns) (hn : n ≤ 9223372036854775807) (hn0 : n0 ≤ 9223372036854775807) :
    Calls Try.prog 3 #[.slice a n c, .slice a0 n0 c0] w (TrueBelow w) := by
  have HST := Lib.hid (show WrSt w a n l a0 n0 ks ns w from ⟨hb, hs, Below.refl _ _⟩); have HLN := Lib.hid hb.len; clear hb hs
  by_cases hbig : 2000 < n ∨ 100 < n0
  · have hcase : (2000 : Int) < (n : Int) ∨ ¬ (2000 : Int) < (n : Int) ∧ (100 : Int) < (n0 : Int) := by omega
    clear hbig
    rcases hcase with h1 | ⟨h1, h2⟩
    all_goals
      go_enter Try.func3, Try.ntmps3
      go_wp2_with fail
      refine (walive_any _).mono ?_
      rintro e w1 ⟨rfl, hB⟩
      go_wp2
      go_ret
      exact ⟨rfl, hB⟩
  · have h1 : ¬ (2000 : Int) < (n : Int) := by omega
    have h2 : ¬ (100 : Int) < (n0 : Int) := by omega
    obtain ⟨F, hF, hok, hbad⟩ := first_no ks ns n n0
    obtain ⟨no, f, hno, hnoz, hwh⟩ := whole_out n l ks ns n0 F hF hok
    obtain ⟨no3, p3, f3, hno3, hp3, hnoz3, hru⟩ := run_out n l ks ns n0 F hF hok
    have READ : Hid (∀ a1 c1 S W, BAt W a1 n l → n ≤ c1 → StAt W a0 n0 ks ns → W.cell? ⟨S, 0, none⟩ = some (.slice a0 n0 c0) → Calls Try.prog 12 #[.slice a1 n c1, .func (.func 57) #[] #[.pointer (some ⟨S, 0, none⟩)]] W (GOut no (gotX ks ns l) (gotB ks ns l) f W)) := Lib.hid fun a1 c1 S W h1 h2 h3 h4 => (gread_any a1 n c1 l S a0 n0 c0 ks ns F W h1 h2 h3 h4 (by omega) (by omega) hF hok hbad).mono fun e w' h => hwh _ _ _ h
    have PART : Hid (∀ a1 c1 S W, BAt W a1 n l → n ≤ c1 → StAt W a0 n0 ks ns → W.cell? ⟨S, 0, none⟩ = some (.slice a0 n0 c0) → Calls Try.prog 16 #[.slice a1 n c1, .func (.func 57) #[] #[.pointer (some ⟨S, 0, none⟩)]] W (GOut3 no3 p3 (gotX ks ns l) (gotB ks ns l) f3 W)) := Lib.hid fun a1 c1 S W h1 h2 h3 h4 => (gpart_any a1 n c1 l S a0 n0 c0 ks ns F W h1 h2 h3 h4 (by omega) (by omega) hF hok hbad).mono fun e w' h => hru _ _ _ h
    have WHOLE : Hid (∀ W, WrSt w a n l a0 n0 ks ns W → Calls Try.prog 14 #[.slice a n c, .slice a0 n0 c0] W (GOut no (gotX ks ns l) (gotB ks ns l) f W)) := Lib.hid fun W h => (whole_any a n c l a0 n0 c0 ks ns F W h.1 hc h.2.1 (by omega) (by omega) hF hok hbad).mono fun e w' h => hwh _ _ _ h
    have RUN : Hid (∀ W, WrSt w a n l a0 n0 ks ns W → Calls Try.prog 17 #[.slice a n c, .slice a0 n0 c0] W (GOut3 no3 p3 (gotX ks ns l) (gotB ks ns l) f3 W)) := Lib.hid fun W h => (run_any a n c l a0 n0 c0 ks ns F W h.1 hc h.2.1 (by omega) (by omega) hF hok hbad).mono fun e w' h => hru _ _ _ h
    have hbd : ∀ j, noAt ks ns n j = 0 → 0 ≤ gotX ks ns l j ∧ gotX ks ns l j < 18446744073709551616 := fun j hj => gotX_bd HST.out.1.ok (by rw [HLN.out]; omega) j (by rw [HLN.out]; exact hj)
    have BD : Hid (∀ j, j < no → 0 ≤ gotX ks ns l j ∧ gotX ks ns l j < 18446744073709551616) := Lib.hid fun j hj => hbd j (hnoz j hj)
    have BD3 : Hid (∀ j, j < no3 → 0 ≤ gotX ks ns l j ∧ gotX ks ns l j < 18446744073709551616) := Lib.hid fun j hj => hbd j (hnoz3 j hj)
    clear hF hok hbad hwh hru hnoz hnoz3 hbd
    generalize gotX ks ns l = xs at READ PART WHOLE RUN BD BD3
    generalize gotB ks ns l = bs at READ PART WHOLE RUN
    go_enter Try.func3, Try.ntmps3
    go_wp2_with fail
    refine (walive_any _).mono ?_
    rintro e w1 ⟨rfl, hB⟩
    have HS1 := Lib.hid (HST.out.below hB); clear hB HST
    go_wp2_with fail
    refine (copy_any a n c l w1 HS1.out.1 (by omega)).mono ?_
    rintro e w2 ⟨am, cm, rfl, hO2, hB2⟩
    have HS2 := Lib.hid (HS1.out.below hB2); have HM2 := Lib.hid hO2; clear hO2 hB2 HS1
    have hmc : n ≤ cm := by
      rcases HM2.out.row.2 with ⟨e, e2⟩ | ⟨g, cap, cur, e, _, _, h3, _⟩
      · omega
      · simp at e; omega
    go_wp2_with fail
    refine (parse_fn a0 n0 c0 w2).mono ?_
    rintro e w3 ⟨S, rfl, hS3, hB3⟩
    have HS3 := Lib.hid (HS2.out.below hB3); have HM3 := Lib.hid (HM2.out.below hB3); have HC3 := Lib.hid hS3; clear hB3 hS3 HS2 HM2
    go_wp2_with fail
    refine (READ.out am cm S w3 HM3.out.bat hmc HS3.out.2.1 HC3.out).mono ?_
    rintro e w4 ⟨a4, c4, rfl, hG4, hB4⟩
    have HS4 := Lib.hid (HS3.out.below hB4); have HM4 := Lib.hid (HM3.out.below hB4); have HG4 := Lib.hid hG4; clear hB4 hG4 HS3 HM3 HC3
    go_wp2_with fail
    refine (WHOLE.out w4 HS4.out).mono ?_
    rintro e w5 ⟨a5, c5, rfl, hG5, hB5⟩
    have HS5 := Lib.hid (HS4.out.below hB5); have HM5 := Lib.hid (HM4.out.below hB5); have HG45 := Lib.hid (HG4.out.below hB5); have HG5 := Lib.hid hG5; clear hB5 hG5 HS4 HM4 HG4
    have hff : (f != f) = false := by simp
    go_wp2_with fail
    obtain ⟨A4, L4, C4, hT4⟩ := HG45.out.gtat BD.out
    obtain ⟨A5, L5, C5, hT5⟩ := HG5.out.gtat BD.out
    refine (gsame_any a4 a5 no c4 c5 xs A4 A5 L4 L5 C4 C5 bs w5 hT4 hT5 (by omega)).mono ?_
    rintro e w6 ⟨rfl, j6, rfl⟩
    have HS6 := Lib.hid (HS5.out.below (below_drewN w5 _ j6)); have HM6 := Lib.hid (HM5.out.below (below_drewN w5 _ j6))
    clear hT4 hT5 HG45 HG5 HS5 HM5 BD
    generalize w5.drewN j6 = w6 at HS6 HM6 ⊢
    go_wp2_with fail
    refine (parse_fn a0 n0 c0 w6).mono ?_
    rintro e w7 ⟨S7, rfl, hS7, hB7⟩
    have HS7 := Lib.hid (HS6.out.below hB7); have HM7 := Lib.hid (HM6.out.below hB7); have HC7 := Lib.hid hS7; clear hB7 hS7 HS6 HM6
    go_wp2_with fail
    refine (PART.out am cm S7 w7 HM7.out.bat hmc HS7.out.2.1 HC7.out).mono ?_
    rintro e w8 ⟨a8, c8, rfl, hG8, hB8⟩
    have HS8 := Lib.hid (HS7.out.below hB8); have HM8 := Lib.hid (HM7.out.below hB8); have HG8 := Lib.hid hG8; have HZ8 := Lib.hid hB8.size; clear hB8 hG8 HC7
    go_wp2_with fail
    refine (RUN.out w8 HS8.out).mono ?_
    rintro e w9 ⟨a9, c9, rfl, hG9, hB9⟩
    have HS9 := Lib.hid (HS8.out.below hB9); have HM9 := Lib.hid (HM8.out.below hB9); have HG89 := Lib.hid (HG8.out.below hB9); have HG9 := Lib.hid hG9; have HZ9 := Lib.hid hB9.size; clear hB9 hG9 HS8 HM8 HG8
    have hff3 : (f3 != f3) = false := by simp
    have hpp3 : ((p3 : Int) != (p3 : Int)) = false := by simp
    go_wp2_with fail
    obtain ⟨A8, L8, C8, hT8⟩ := HG89.out.gtat BD3.out
    obtain ⟨A9, L9, C9, hT9⟩ := HG9.out.gtat BD3.out
    refine (gsame_any a8 a9 no3 c8 c9 xs A8 A9 L8 L9 C8 C9 bs w9 hT8 hT9 (by omega)).mono ?_
    rintro e w10 ⟨rfl, j10, rfl⟩
    have HS10 := Lib.hid (HS9.out.below (below_drewN w9 _ j10)); have HM10 := Lib.hid (HM9.out.below (below_drewN w9 _ j10)); have HG10 := Lib.hid (HG89.out.below (below_drewN w9 _ j10)); have HZ10 := Lib.hid (show w7.heap.size ≤ (w9.drewN j10).heap.size from Nat.le_trans HZ8.out HZ9.out)
    clear hT8 hT9 HG89 HG9 HS9 HM9 BD3 HZ8 HZ9
    generalize w9.drewN j10 = w10 at HS10 HM10 HG10 HZ10 ⊢
    clear READ PART WHOLE RUN
    obtain ⟨A, C, hrow, heach⟩ := HG10.out
    have HSP := Lib.hid (show SpSt w7.heap.size no3 a8 c8 xs bs A C w10 w10 from ⟨hrow, fun j hj => ⟨⟨_, (heach j hj).1⟩, (heach j hj).2⟩, Below.refl _ _⟩)
    clear hrow heach HG10
    go_wp2_with fail
    go_loopw [84] (fun iv wr => ∃ k : Nat, k ≤ no3 ∧ iv = .int .i64 k ∧ Hid (SpSt w7.heap.size no3 a8 c8 xs bs A C w10 wr)) (fun iv _ => no3 - (intOf iv).toNat)
    case atStart => exact ⟨0, Nat.zero_le _, rfl, HSP⟩
    case round =>
      obtain ⟨k, hk, rfl, HQ⟩ := hrel
      clear HSP
      by_cases hlt : k < no3
      · have hltz : (k : Int) < (no3 : Int) := by omega
        obtain ⟨g8, rfl, d0, d1⟩ := HQ.out.at k hlt
        obtain ⟨z, hz⟩ : ∃ z, (bs k).length = z := ⟨_, rfl⟩
        obtain ⟨ak, hak⟩ : ∃ z, A k = z := ⟨_, rfl⟩
        obtain ⟨ck, hck⟩ : ∃ z, C k = z := ⟨_, rfl⟩
        rw [hz, hak, hck] at d1
        have hzl : z ≤ 9223372036854775807 := by
          obtain ⟨l', hO⟩ := (HQ.out.each k hlt).1
          have := hO.bat.lim
          omega
        have HZK := Lib.hid hz; have HAK := Lib.hid hak; have HCK := Lib.hid hck; clear hz hak hck
        have HZB := Lib.hid (show w7.heap.size ≤ wr.heap.size from Nat.le_trans HZ10.out HQ.out.low.size)
        go_wp2_with fail
        have HI := Lib.hid (show SpSt w7.heap.size no3 (some ⟨g8, 0, none⟩) c8 xs bs A C w10 (wr.alloc (.cells #[.int .u64 (xs k), .slice ak z ck] 41)) ∧ (wr.alloc (.cells #[.int .u64 (xs k), .slice ak z ck] 41)).heap[wr.heap.size]? = some (.cells #[.int .u64 (xs k), .slice ak z ck] 41 (0, 0)) from ⟨HQ.out.below ((Below.refl _ wr).alloc (Nat.le_refl _) _) HZB.out, lit_new rfl⟩)
        have HBK : Hid (∀ y, ak = some y → y.block < wr.heap.size) := Lib.hid fun y hy => by
          obtain ⟨l', hO⟩ := (HQ.out.each k hlt).1
          exact (hO.blk y (by rw [HAK.out]; exact hy)).2
        clear HQ d0 d1 HZB
        obtain ⟨V, eV⟩ : ∃ V, V = wr := ⟨_, rfl⟩
        subst eV
        go_loopw [91] (fun iv wr => ∃ i : Nat, i ≤ z ∧ iv = .int .i64 i ∧ Hid (SpSt w7.heap.size no3 (some ⟨g8, 0, none⟩) c8 xs bs A C w10 wr ∧ wr.heap[V.heap.size]? = some (.cells #[.int .u64 (xs k), .slice ak z ck] 41 (0, 0)))) (fun iv _ => z - (intOf iv).toNat)
        case atStart => exact ⟨0, Nat.zero_le _, rfl, HI⟩
        case round =>
          obtain ⟨i, hi, rfl, HJ⟩ := hrel
          clear HI
          by_cases hlti : i < z
          · have hltiz : (i : Int) < (z : Int) := by omega
            obtain ⟨l', hO⟩ := (HJ.out.1.each k hlt).1
            rw [HZK.out, HAK.out, HCK.out] at hO
            obtain ⟨g, rfl⟩ := hO.form (by omega)
            have b1 : wr.cell? ⟨V.heap.size, 1, none⟩ = some (.slice (some ⟨g, 0, none⟩) z ck) := by rw [cell_of_row wr _ 1 _ _ _ HJ.out.2]; rfl
            have dR := hO.row.cellAt i (by omega)
            have dF := hO.row.frozenAt i
            have hlen' := hO.len
            rw [List.getElem?_map, List.getElem?_eq_getElem (by omega), Option.map_some] at dR
            have hu : ∀ z : Int, IntKind.u8.wrap z = z % 256 := fun z => by simp [IntKind.wrap, IntKind.bits, IntKind.signed]
            have HU := Lib.hid hu
            generalize l'[i] = x at dR
            clear hu hlen' hO
            have hgV := HBK.out _ rfl
            go_wp2
            all_goals
              go_roundw
              case rel =>
                refine ⟨i + 1, by omega, by go_num, Lib.hid ⟨HJ.out.1.set k hlt g i HAK.out _ ?_, (Below.heap_setCell wr _ _ V.heap.size (by simp at hgV ⊢; omega)).trans HJ.out.2⟩⟩
                first
                  | (rw [HU.out]; omega)
                  | omega
              case measure => simp [intOf]; omega
          · have hltiz : ¬ (i : Int) < (z : Int) := by omega
            go_wp2
            go_roundw
            case rel => exact ⟨k + 1, by omega, by go_num, Lib.hid HJ.out.1⟩
            case measure => simp [intOf]; omega
      · have hltz : ¬ (k : Int) < (no3 : Int) := by omega
        have HSE := Lib.hid (HS10.out)
        have hbm : BAt wr am n l := HM10.out.bat.same HQ.out.low.size fun x h0 hx hl => HQ.out.low.block x.block (by have := (HM7.out.blk x hx).2; omega)
        have hbb : BAt wr a n l := HS10.out.1.same HQ.out.low.size fun x h0 hx hl => HQ.out.low.block x.block (by have := HS7.out.1.lt h0 x hx; omega)
        have HBM := Lib.hid hbm; have HBB := Lib.hid hbb; clear hbm hbb
        go_wp2_with fail
        refine (same_any am a n n cm c l l wr HBM.out HBB.out).mono ?_
        rw [decide_eq_true rfl]
        rintro e w12 ⟨rfl, j12, rfl⟩
        go_wp2
        go_ret
        refine ⟨rfl, (HS10.out.2.2.trans (HQ.out.low.mono ?_)).trans (below_drewN wr _ j12)⟩
        exact HS7.out.2.2.size
theorem walk_WireReads (a0 : Option Addr) (len0 cap0 : Nat) (z0 : List Int) (a1 : Option Addr) (len1 cap1 : Nat) (ks1 ns1 : Nat → Int) (w : World) (w0 : IntRow .u8 w a0 len0 cap0 z0) (w1 : StIn w a1 len1 cap1 ks1 ns1) :
    Calls Try.prog 3 #[.slice a0 len0 cap0, .slice a1 len1 cap1] w (TrueBelow w) := by
  have h1 := w1.at
  unfold maxLen at h1
  exact reads_any a0 len0 cap0 _ a1 len1 cap1 ks1 ns1 w w0.bat.1 w0.bat.2 h1.1 (by have := w0.bat.1.lim; omega) (by omega)
end Go.Proofs.Ythfiahdeggmmcaa

/-
  StripeRows' walk.
-/
import Derived.Test.YthfiahdeggmmcaaStrMine
namespace Go.Proofs.Ythfiahdeggmmcaa
open Go.RowKit Go.Shelf
set_option linter.unusedVariables false
def maxLen2 (ls : List (List Int)) : Nat := (Str.all [] ls).length
set_option maxHeartbeats 2000000 in
set_option maxRecDepth 100000 in
theorem rows_out (a0 : Option Addr) (len c0 : Nat) (A : Nat → Option Addr) (L C : Nat → Nat) (w : World) (hv : VAt w a0 len A L C) (hlen : len ≤ 9223372036854775807) (h1 : smallB len L = false) :
    Calls Try.prog 8 #[.slice a0 len c0] w (TrueBelow w) := by
  have hs : ∀ W, Below w.heap.size w W → Calls Try.prog 26 #[.slice a0 len c0] W (SameV (.bool false) W) := fun W hB => by rw [← h1]; exact small_any a0 len c0 A L C W (hv.below hB) hlen
  have HS := Lib.hid hs; clear hs h1 hv
  go_enter Try.func8, Try.ntmps8
  go_wp2_with (first
    | (go_at_call 25; refine (alive_any _).mono ?_; rintro e w1 ⟨rfl, hB⟩)
    | (go_at_call 26; refine (HS.out _ hB).mono ?_; rintro e w2 ⟨rfl, rfl⟩))
  go_ret
  exact ⟨rfl, hB⟩
def RowSt (w : World) (a0 : Option Addr) (len : Nat) (A : Nat → Option Addr) (L C : Nat → Nat) (ls : List (List Int)) (W : World) : Prop := RIn W a0 len A L C ls ∧ Below w.heap.size w W
theorem RowSt.below {w : World} {a0 : Option Addr} {len : Nat} {A : Nat → Option Addr} {L C : Nat → Nat} {ls : List (List Int)} {W W' : World} (h : RowSt w a0 len A L C ls W) (hb : Below W.heap.size W W') : RowSt w a0 len A L C ls W' :=
  ⟨h.1.below hb, h.2.trans (hb.mono h.2.size)⟩
theorem all_take_len (ls : List (List Int)) (k : Nat) (h : k < ls.length) : (Str.all [] (ls.take (k + 1))).length = max (Str.all [] (ls.take k)).length (ls.getD k []).length := by
  rw [Str.all_take ls k h, Str.xor_len]
set_option maxHeartbeats 2000000 in
set_option maxRecDepth 100000 in
theorem rows_in (a0 : Option Addr) (len c0 : Nat) (A : Nat → Option Addr) (L C : Nat → Nat) (ls : List (List Int)) (w : World) (hr : RIn w a0 len A L C ls) (hlen : len ≤ 30) :
    Calls Try.prog 8 #[.slice a0 len c0] w (TrueBelow w) := by
  have HST := Lib.hid (show RowSt w a0 len A L C ls w from ⟨hr, Below.refl _ _⟩)
  have hsm : smallB len L = true := decide_eq_true ⟨fun k hk => (hr.each k hk).2, hlen⟩
  have hs : ∀ W, RowSt w a0 len A L C ls W → Calls Try.prog 26 #[.slice a0 len c0] W (SameV (.bool true) W) := fun W h => by
    obtain ⟨b, o, hro⟩ := h.1.row
    rw [← hsm]; exact small_any a0 len c0 A L C W ⟨b, o, fun k hk => ⟨(hro k hk).1, (hro k hk).2.1, (hro k hk).2.2, by have := (h.1.each k hk).2; omega⟩⟩ (by omega)
  have HS := Lib.hid hs; clear hs hsm
  have hL5 : ∀ j, j < len → L j ≤ 500 := fun j hj => (hr.each j hj).2
  have hLA : ∀ k, (Str.all [] (ls.take k)).length ≤ 500 := fun k => Str.all_len _ [] 500 (by simp) (fun l hl => hr.short l (List.mem_of_mem_take hl))
  have HL5 := Lib.hid hL5; have HLA := Lib.hid hLA; have HC := Lib.hid hr.count; have HSH := Lib.hid hr.short
  clear hL5 hLA hr
  go_enter Try.func8, Try.ntmps8
  go_wp2_with fail
  refine (alive_any _).mono ?_
  rintro e w1 ⟨rfl, hB1⟩
  have HS1 := Lib.hid (HST.out.below hB1); clear hB1 HST
  go_wp2_with fail
  refine (HS.out _ HS1.out).mono ?_
  rintro e w1' ⟨rfl, rfl⟩
  go_wp2_with fail
  refine (rall_any a0 len c0 ls _ HS1.out.1.rat (by omega) HSH.out).mono ?_
  rintro e w2 ⟨a3, c3, rfl, hO2, hB2⟩
  obtain ⟨ll, hll⟩ : ∃ ll, (Str.all [] ls).length = ll := ⟨_, rfl⟩
  rw [hll] at hO2 ⊢
  have HLL := Lib.hid hll; clear hll
  have HS2 := Lib.hid (HS1.out.below hB2); have HA2 := Lib.hid hO2.bat; clear hO2 hB2 HS1
  go_wp2
  go_loopw [5, 6, 22] (fun lo mi i wr => ∃ (k : Nat) (a : Option Addr) (n c : Nat) (am : Option Addr) (cm : Nat) (A' : Nat → Option Addr) (C' : Nat → Nat), k ≤ len ∧ i = .int .i64 k ∧ mi = .slice am k cm ∧ lo = .int .i64 n ∧ n ≤ 500 ∧
      Hid (MineSt w2.heap.size w2.heap.size ls L k a n c am cm A' C' wr ∧ Below w2.heap.size w2 wr)) (fun _ _ i _ => len - (intOf i).toNat)
  case atStart =>
    refine ⟨0, none, 0, 0, _, _, fun _ => none, fun _ => 0, Nat.zero_le _, rfl, rfl, rfl, by omega, Lib.hid ⟨⟨⟨lit_old rfl, ⟨World.ownsRow_nil _ _ _ _, Str.ok_nil⟩, fun x hx => by cases hx⟩, ⟨rfl, .inr ⟨w2.heap.size + 1, 0, #[], rfl, by omega, lit_new (by simp), Nat.le_refl _, Nat.zero_le _, rfl, rfl⟩⟩, fun y hy => ?_, fun j hj => by omega⟩, ((Below.refl _ w2).alloc (Nat.le_refl _) _).alloc (by simp) _⟩⟩
    cases hy; exact ⟨by simp, by simp⟩
  case round =>
    obtain ⟨k, a, n, c, am, cm, A', C', hk, rfl, rfl, rfl, hn5, HW⟩ := hrel
    have HSW := Lib.hid (HS2.out.below HW.out.2)
    by_cases hlt : k < len
    · have hltz : (k : Int) < (len : Int) := by omega
      obtain ⟨b, o, hro⟩ := HSW.out.1.row
      obtain ⟨rfl, _, d⟩ := hro k hlt
      obtain ⟨hba, h5⟩ := HSW.out.1.each k hlt
      have hcopy := copy_any (A k) (L k) (C k) _ wr hba (by omega)
      have hb0 := hba.len
      have hkl : k < ls.length := by rw [HC.out]; exact hlt
      have hmx : max n (L k) = (Str.all [] (ls.take (k + 1))).length := by
        rw [all_take_len ls k hkl, hb0, ← HW.out.1.sum.own.len]
      have hm5 : max n (L k) ≤ 500 := by rw [hmx]; exact HLA.out _
      have HCOPY := Lib.hid hcopy; have HKL := Lib.hid hkl
      clear hro hba hcopy hmx hb0 hkl
      have hLk : ∃ y, L k = y := ⟨_, rfl⟩
      obtain ⟨y, hy⟩ := hLk
      rw [hy] at d HCOPY hm5 h5
      have HY := Lib.hid hy; clear hy
      generalize A k = x at d HCOPY
      generalize C k = z at d HCOPY
      go_wp2_with fail
      refine (HCOPY.out).mono ?_
      rintro e w5 ⟨a5, c5, rfl, hO5, hB5⟩
      have hg : Own w5 wr.heap.size a5 (L k) c5 (ls.getD k []) := by rw [HY.out]; exact hO5
      have hbw : w2.heap.size ≤ w5.heap.size := Nat.le_trans HW.out.2.size hB5.size
      obtain ⟨a6, c6, w6, hrun, hO6, hg6, hl6⟩ := append_slices (w5.alloc (.cells #[.slice a5 y c5] 22)) 61 w2.heap.size am k cm _ (((HW.out.1.mine.kept (grown_below hB5 none) (by cases am <;> simp [Value.ownBlock]))).alloc _) (some ⟨w5.heap.size, 0, none⟩) 1 1 [.slice a5 y c5] rfl (fun _ => ⟨_, rfl, cell_one_new _ _ _⟩) (by simp [Value.oneCell']) (by omega) (by simp; omega)
      obtain ⟨hS6, hb6, hne6⟩ := mine_mid HW.out.1 hg hB5 hg6
      rw [HY.out] at hb6 hne6
      have hsz6 : w2.heap.size ≤ w6.heap.size := by have := hg6.size; simp at this; omega
      have hadd := add_any w2.heap.size w2.heap.size a n c _ k a5 y c5 _ w6 hS6 hb6 hne6 (by omega) (by omega) (by omega) hsz6
      have HADD := Lib.hid hadd; have HRUN := Lib.hid hrun
      have HG := Lib.hid hg; have HB5 := Lib.hid hB5; have HG6 := Lib.hid hg6; have HO6 := Lib.hid hO6; have HL6 := Lib.hid hl6
      clear hO5 hB5 hg hrun hO6 hg6 hl6 hS6 hb6 hne6 hadd
      go_wp2_with (at_builtin; refine Lib.wpList_append_run _ rfl (.tmp 28) (.tmp 30) 61 61 rfl (.slice am k cm) _ (by rfl) (by rfl) _ _ HRUN.out ?_)
      refine (HADD.out).mono ?_
      rintro e w7 ⟨rfl, a7, c7, hS7, hK7, hl7⟩
      have hY := HY.out
      have hM : MineSt w2.heap.size w2.heap.size ls L (k + 1) a7 (max n y) c7 a6 c6 (upd A' k a5) (upd C' k c5) w7 := mine_step HW.out.1 HKL.out HW.out.2.size HG.out HB5.out HG6.out (by rw [hY]; exact HO6.out) HL6.out hS7 hK7 hl7
      have hBW : Below w2.heap.size w2 w7 := by
        refine (((HW.out.2.trans (HB5.out.mono HW.out.2.size)).alloc hbw _).grown HG6.out (by simp; omega) (fun q e => ?_)).trans (hK7.below (Nat.le_refl _) (fun q e => ?_) hsz6)
        · cases am with
          | none => cases e
          | some t => have := (HW.out.1.mine.lt t.block rfl).1; simp at e; omega
        · cases a with
          | none => cases e
          | some t => have := (HW.out.1.sum.own.blk t rfl).1; simp at e; omega
      have HM := Lib.hid hM; have HBW := Lib.hid hBW
      clear hS7 hK7 hl7 hM hBW hY HADD HRUN HG HB5 HG6 HO6 HL6 HCOPY HSW HW
      go_wp2
      all_goals
        go_roundw
        case rel => exact ⟨k + 1, a7, max n y, c7, a6, c6, _, _, by omega, by go_num, rfl, by congr 1; omega, hm5, Lib.hid ⟨HM.out, HBW.out⟩⟩
        case measure => simp [intOf]; omega
    · have hltz : ¬ (k : Int) < (len : Int) := by omega
      obtain rfl : k = len := by omega
      have hM := HW.out.1
      have htk : ls.take k = ls := List.take_of_length_le (by rw [HC.out]; exact Nat.le_refl _)
      have hnl : n = ll := by rw [← HW.out.1.sum.own.len, htk]; exact HLL.out
      subst hnl
      have HM := Lib.hid hM; have HAW := Lib.hid (HA2.out.below HW.out.2); have HTK := Lib.hid htk
      have hb1 := bytes_any w2.heap.size w2.heap.size a n c _ k wr hM.sum (by omega)
      rw [htk] at hb1
      have HB1 := Lib.hid hb1
      clear hM htk hb1 HW HA2
      go_wp2_with fail
      refine (HB1.out).mono ?_
      rintro e w8 ⟨a10, c10, rfl, hO8, hB8⟩
      have HO8 := Lib.hid hO8; have HB8 := Lib.hid hB8; clear hO8 hB8 HB1
      go_wp2
      obtain ⟨W5, e5⟩ : ∃ W, W = wr := ⟨_, rfl⟩
      subst e5
      go_loopw [42] (fun i wr => ∃ (j : Nat) (l' : List Int), j ≤ n ∧ i = .int .i64 j ∧ Hid (Own wr W5.heap.size a10 n c10 l' ∧ Below W5.heap.size W5 wr)) (fun i _ => n - (intOf i).toNat)
      case atStart => exact ⟨0, _, Nat.zero_le _, rfl, Lib.hid ⟨HO8.out, HB8.out⟩⟩
      case round =>
        obtain ⟨j, l', hj, rfl, HQ⟩ := hrel
        by_cases hlt2 : j < n
        · have hltz2 : (j : Int) < (n : Int) := by omega
          obtain ⟨g, rfl⟩ := HQ.out.1.form (by omega)
          have dR := HQ.out.1.row.cellAt j (by omega)
          have dF := HQ.out.1.row.frozenAt j
          have hlen' := HQ.out.1.len
          rw [List.getElem?_map, List.getElem?_eq_getElem (by omega), Option.map_some] at dR
          have hu : ∀ z : Int, IntKind.u8.wrap z = z % 256 := fun z => by simp [IntKind.wrap, IntKind.bits, IntKind.signed]
          have HU := Lib.hid hu
          generalize l'[j] = x at dR
          clear hu hlen' HO8 HB8
          go_wp2
          all_goals
            go_roundw
            case rel =>
              refine ⟨j + 1, l'.set j _, by omega, by go_num, Lib.hid ⟨HQ.out.1.set j _ ?_, HQ.out.2.setCell (by have := (HQ.out.1.blk _ rfl).1; exact this) _⟩⟩
              first
                | (rw [HU.out]; omega)
                | omega
            case measure => simp [intOf]; omega
        · have hltz2 : ¬ (j : Int) < (n : Int) := by omega
          have HM9 := Lib.hid (HM.out.below HQ.out.2); have HS9 := Lib.hid (HSW.out.below HQ.out.2); have HA9 := Lib.hid (HAW.out.below HQ.out.2)
          clear HQ HO8 HB8 HM HSW HAW HS2
          have L5 := HL5.out
          have hall := all_any am k cm ls wr (HM9.out.rat HC.out L5) (by omega)
          rw [HLL.out] at hall
          have HALL := Lib.hid hall; clear hall L5
          go_wp2_with fail
          refine (HALL.out).mono ?_
          rintro e w10 ⟨a53, c53, rfl, hO10, hB10⟩
          have HM10 := Lib.hid (HM9.out.below hB10); have HS10 := Lib.hid (HS9.out.below hB10); have HA10 := Lib.hid (HA9.out.below hB10); have HO10 := Lib.hid hO10
          clear HM9 HS9 HA9 hO10 hB10 HALL
          go_wp2_with fail
          refine (same_any a53 a3 n n c53 c3 _ _ w10 HO10.out.bat HA10.out).mono ?_
          rw [decide_eq_true rfl]
          rintro e w11 ⟨rfl, j11, rfl⟩
          have HM11 := Lib.hid (HM10.out.below (below_drewN w10 _ j11)); have HS11 := Lib.hid (HS10.out.below (below_drewN w10 _ j11)); have HA11 := Lib.hid (HA10.out.below (below_drewN w10 _ j11))
          clear HM10 HS10 HA10 HO10
          have hb1 := bytes_any w2.heap.size w2.heap.size a n c _ k _ HM11.out.sum (by omega)
          rw [HTK.out] at hb1
          have HB1 := Lib.hid hb1; clear hb1
          go_wp2_with fail
          refine (HB1.out).mono ?_
          rintro e w12 ⟨a57, c57, rfl, hO12, hB12⟩
          have HM12 := Lib.hid (HM11.out.below hB12); have HS12 := Lib.hid (HS11.out.below hB12); have HA12 := Lib.hid (HA11.out.below hB12); have HO12 := Lib.hid hO12
          clear HM11 HS11 HA11 hO12 hB12 HB1
          go_wp2_with fail
          refine (same_any a57 a3 n n c57 c3 _ _ w12 HO12.out.bat HA12.out).mono ?_
          rw [decide_eq_true rfl]
          rintro e w13 ⟨rfl, j13, rfl⟩
          have HM13 := Lib.hid (HM12.out.below (below_drewN w12 _ j13)); have HS13 := Lib.hid (HS12.out.below (below_drewN w12 _ j13))
          clear HM12 HS12 HA12 HO12
          go_wp2_with fail
          refine (count_any w2.heap.size w2.heap.size a n c _ k _ HM13.out.sum).mono ?_
          rintro e w14 ⟨rfl, rfl⟩
          have hkk : ((k : Int) == (k : Int)) = true := by simp
          have hnn : ((n : Int) == (n : Int)) = true := by simp
          go_wp2_with fail
          refine (longest_any w2.heap.size w2.heap.size a n c _ k _ HM13.out.sum).mono ?_
          rintro e w15 ⟨rfl, rfl⟩
          have L5 := HL5.out
          have hsa := sameall_any am a0 k cm c0 ls _ (HM13.out.rat HC.out L5) HS13.out.1.rat (by omega)
          have HSA := Lib.hid hsa; clear hsa L5
          go_wp2_with fail
          refine (HSA.out).mono ?_
          rintro e w16 ⟨rfl, j16, rfl⟩
          go_wp2
          go_ret
          have hfin := HS13.out.2.trans (below_drewN (w12.drewN j13) _ j16)
          rw [World.drewN_drewN] at hfin
          exact ⟨rfl, hfin⟩
theorem walk_StripeRows (a0 : Option Addr) (len0 cap0 : Nat) (A0 : Nat → Option Addr) (L0 C0 : Nat → Nat) (Z0 : Nat → List Int) (w : World) (w0 : RowsIn .u8 w a0 len0 cap0 A0 L0 C0 Z0) :
    Calls Try.prog 8 #[.slice a0 len0 cap0] w (TrueBelow w) := by
  obtain ⟨hl, hm, _⟩ := w0.row
  unfold maxLen at hm
  cases h : smallB len0 L0 with
  | false => exact rows_out a0 len0 cap0 A0 L0 C0 w w0.vat (by omega) h
  | true =>
    have hd := of_decide_eq_true h
    exact rows_in a0 len0 cap0 A0 L0 C0 _ w (w0.rin hd.1) hd.2
end Go.Proofs.Ythfiahdeggmmcaa

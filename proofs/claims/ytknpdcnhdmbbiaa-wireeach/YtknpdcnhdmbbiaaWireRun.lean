
/-
  confluxref03.Run: the document's reading of steps.
-/
import Derived.Test.YtknpdcnhdmbbiaaWireSame
namespace Go.Proofs.Ytknpdcnhdmbbiaa
open Go.RowKit Go.Shelf
set_option linter.unusedVariables false
theorem run_mid (a : Option Addr) (n c p q : Nat) (z : Int) (hz : z = (p : Int) + (q : Int)) (hq : p + q ≤ n) (hc : n ≤ c) (w : World) : (Instr.slice 22 (.slice a n c) (some (.int .i64 (p : Int))) (some (.int .i64 z)) none).run Try.prog w = .ok (.slice (restA a c p) q (c - p)) w := by
  have ht : Try.prog.underlying 22 = some (.slice (Try.prog.elem 22)) := by kernel_rfl
  have hs : (sizeOf (Try.prog.elem 22)).run Try.prog w = .ok 1 w := by kernel_rfl
  rw [run_slice_lh w 22 a n c ht .i64 .i64 (p : Int) z (by omega) (by omega) (by omega), Int.toNat_natCast, hs]
  simp only [sliced, restA, Result.andThen, Nat.mul_one]
  rw [show z.toNat - p = q by omega]
/-- Where Run's loop stands behind i steps. -/
def RSt (w : World) (l : List Int) (ks ns : Nat → Int) (i : Nat) (ao : Option Addr) (co : Nat) (W : World) : Prop :=
  GRow W w.heap.size ao i co (gotX ks ns l) (gotB ks ns l) ∧ Below w.heap.size w W
theorem RSt.next {w : World} {l : List Int} {ks ns : Nat → Int} {i : Nat} {ao : Option Addr} {co : Nat} {W w2 : World} (h : RSt w l ks ns i ao co W) (hB : Below W.heap.size W w2) (a' : Option Addr) (c' : Nat) (hO : Own w2 W.heap.size a' (gotB ks ns l i).length c' (gotB ks ns l i)) (hi : i ≤ 1000000) (ty : TypeId) :
    ∃ a2 c2 w3, (Builtin.append_ #[29, 29] ty #[.slice ao i co, .slice (some ⟨w2.heap.size, 0, none⟩) 1 1]).run Try.prog (w2.alloc (.cells #[.int .u64 (gotX ks ns l i), .slice a' (gotB ks ns l i).length c'] 42)) = .ok (.slice a2 (i + 1) c2) w3 ∧ RSt w l ks ns (i + 1) a2 c2 w3 := by
  have hz := h.2.size; have hz2 := hB.size
  obtain ⟨a2, c2, w3, hrun, hG, hg3, hb3⟩ := append_got w2 ty w.heap.size ao i co (gotX ks ns l) (gotB ks ns l) (h.1.below hB) a' c' (hO.mono hz) (fun y z hy hz' => by have := (h.1.blk y hy).2; have := (hO.blk z hz').1; omega) hi (by omega)
  refine ⟨a2, c2, w3, hrun, hG, ?_⟩
  have hB2 : Below w.heap.size w w2 := h.2.trans (hB.mono hz)
  have hB3 : Below w.heap.size w (w2.alloc (.cells #[.int .u64 (gotX ks ns l i), .slice a' (gotB ks ns l i).length c'] 42)) := hB2.alloc (by omega) _
  exact hB3.grown hg3 (by simp; omega) (fun k e => by
    cases ao with
    | none => simp at e
    | some y => have := (h.1.blk y rfl).1; simp at e; omega)
def RunEnd (n : Nat) (l : List Int) (ks ns : Nat → Int) (n0 F : Nat) (w : World) (e : Ending) (w' : World) : Prop :=
  (F = n0 → ∃ ao co, e = .returned (.tuple #[.slice ao n0 co, .int .i64 (pos ks ns n n0), .int .i64 0]) ∧ GRow w' w.heap.size ao n0 co (gotX ks ns l) (gotB ks ns l) ∧ Below w.heap.size w w') ∧
  (F < n0 → e = .returned (.tuple #[.slice none 0 0, .int .i64 0, .int .i64 (noAt ks ns n F)]) ∧ Below w.heap.size w w')
theorem own_no (W : World) (base : Nat) : Own W base none 0 0 [] := ⟨World.ownsRow_nil _ _ _ _, Str.ok_nil⟩
set_option maxHeartbeats 4000000 in
set_option maxRecDepth 100000 in
theorem run_any (a : Option Addr) (n c : Nat) (l : List Int) (a0 : Option Addr) (n0 c0 : Nat) (ks ns : Nat → Int) (F : Nat) (w : World) (hb : BAt w a n l) (hc : n ≤ c) (hs : StAt w a0 n0 ks ns) (hn : n0 ≤ 100) (hlim : n ≤ 140737488355327)
    (hF : F ≤ n0) (hok : ∀ j, j < F → noAt ks ns n j = 0) (hbad : F < n0 → noAt ks ns n F ≠ 0) :
    Calls Try.prog 54 #[.slice a n c, .slice a0 n0 c0] w (RunEnd n l ks ns n0 F w) := by
  have HB := Lib.hid hb; have HS := Lib.hid hs; have HOK := Lib.hid hok; have HBAD := Lib.hid hbad; have HLN := Lib.hid hb.len; clear hb hs hok hbad
  go_enter Try.func54, Try.ntmps54
  go_wp2
  go_loopw [7, 8, 9] (fun s pv iv wr => ∃ (i : Nat) (ao : Option Addr) (co p : Nat), i ≤ F ∧ p ≤ n ∧ iv = .int .i64 i ∧ pv = .int .i64 p ∧ s = .slice ao i co ∧ Hid (RSt w l ks ns i ao co wr ∧ p = pos ks ns n i)) (fun _ _ iv _ => n0 - (intOf iv).toNat)
  case atStart => exact ⟨0, _, _, 0, Nat.zero_le _, Nat.zero_le _, rfl, rfl, rfl, Lib.hid ⟨⟨⟨fun _ => none, fun _ => 0, World.ownsRow_made w _ 0 (Nat.le_refl _) (by decide) rfl, fun j hj => by omega⟩, (Below.refl _ w).alloc (Nat.le_refl _) _⟩, rfl⟩⟩
  case round =>
    obtain ⟨i, ao, co, p, hi, hp, rfl, rfl, rfl, HP⟩ := hrel
    by_cases hlt : i < n0
    · have hltz : (i : Int) < (n0 : Int) := by omega
      obtain ⟨b, o, hr⟩ := HS.out.below (HP.out.1.2)
      obtain ⟨rfl, hbl, g0, g1⟩ := hr i hlt
      clear hr
      go_wp2_with fail
      go_quiet (fail)
      have HPW := Lib.hid (show RSt w l ks ns i ao co (wr.drewN nq) from ⟨HP.out.1.1.below (below_drewN wr _ nq), HP.out.1.2.trans (below_drewN wr _ nq)⟩)
      have HBW := Lib.hid (HB.out.below HPW.out.2)
      have HWW := Lib.hid HPW.out.2
      clear g0 g1 hbl
      generalize wr.drewN nq = W at HPW HBW HWW ⊢
      by_cases hk1 : ks i = 1
      · rw [hk1]
        by_cases hiF : i < F
        · have hno := HOK.out i hiF
          have hq : p + 1 ≤ n := by
            unfold noAt at hno; rw [← HP.out.2, hk1] at hno; simp [stepNo] at hno; omega
          have hX : gotX ks ns l i = Num ((l.drop p).take 1) := by unfold gotX; rw [HLN.out, ← HP.out.2, hk1]; rfl
          have hBn : gotB ks ns l i = [] := by unfold gotB; rw [hk1]; rfl
          have hpos : pos ks ns n (i + 1) = p + 1 := by simp only [pos]; rw [← HP.out.2, hk1]; rfl
          have hsl := run_mid a n c p 1 ((p : Int) + 1) rfl hq hc
          have HNUM := Lib.hid (rnum_any (restA a c p) 1 (c - p) _ W ((restA_bat HBW.out hc p hp).take 1 (by omega)) (by decide))
          obtain ⟨a2, c2, w3, hrun, hN⟩ := HPW.out.next (Below.refl _ W) none 0 (by rw [hBn]; exact own_no _ _) (by omega) 29
          rw [hX, hBn, List.length_nil] at hrun
          have HRUN := Lib.hid hrun; have HN := Lib.hid hN; have HPOS := Lib.hid hpos
          clear hrun hN hX hBn hpos hno HPW HBW
          have hpz : (p : Int) + 1 ≤ (n : Int) := by omega
          have hlz : ¬ (n : Int) - (p : Int) < 1 := by omega
          generalize Num ((l.drop p).take 1) = x at HNUM HRUN
          go_wp2_with fail
          refine (HNUM.out).mono ?_
          rintro e w2 ⟨rfl, rfl⟩
          go_wp2_with (at_builtin; refine Lib.wpList_append_run _ rfl _ _ 29 29 rfl (.slice ao i co) _ (by rfl) (by rfl) _ _ HRUN.out ?_)
          go_roundw
          case rel => exact ⟨i + 1, a2, c2, p + 1, by omega, by omega, by go_num, by go_num, rfl, Lib.hid ⟨HN.out, HPOS.out.symm⟩⟩
          case measure => simp [intOf]; omega
        · obtain rfl : i = F := by omega
          have hno := HBAD.out hlt
          have hq : n < p + 1 := by
            refine Nat.lt_of_not_le fun hq => hno ?_
            unfold noAt; rw [← HP.out.2, hk1]; simp [stepNo]; omega
          have hv : noAt ks ns n i = 20 := by unfold noAt; rw [← HP.out.2, hk1]; simp [stepNo]; omega
          have hlz : (n : Int) - (p : Int) < 1 := by omega
          have HV := Lib.hid hv; clear hv hno
          clear HPW HBW
          go_wp2
          refine bodyPost_ret (v := .tuple #[.slice none 0 0, .int .i64 0, .int .i64 20]) (by simp [results, Try.results54, go_sem]) rfl ?_
          exact ⟨fun e => by omega, fun _ => ⟨by rw [HV.out], HWW.out⟩⟩
      by_cases hk2 : ks i = 2
      · rw [hk2]
        by_cases hiF : i < F
        · have hno := HOK.out i hiF
          have hq : p + 2 ≤ n := by
            unfold noAt at hno; rw [← HP.out.2, hk2] at hno; simp [stepNo] at hno; omega
          have hX : gotX ks ns l i = Num ((l.drop p).take 2) := by unfold gotX; rw [HLN.out, ← HP.out.2, hk2]; rfl
          have hBn : gotB ks ns l i = [] := by unfold gotB; rw [hk2]; rfl
          have hpos : pos ks ns n (i + 1) = p + 2 := by simp only [pos]; rw [← HP.out.2, hk2]; rfl
          have hsl := run_mid a n c p 2 ((p : Int) + 2) rfl hq hc
          have HNUM := Lib.hid (rnum_any (restA a c p) 2 (c - p) _ W ((restA_bat HBW.out hc p hp).take 2 (by omega)) (by decide))
          obtain ⟨a2, c2, w3, hrun, hN⟩ := HPW.out.next (Below.refl _ W) none 0 (by rw [hBn]; exact own_no _ _) (by omega) 29
          rw [hX, hBn, List.length_nil] at hrun
          have HRUN := Lib.hid hrun; have HN := Lib.hid hN; have HPOS := Lib.hid hpos
          clear hrun hN hX hBn hpos hno HPW HBW
          have hpz : (p : Int) + 2 ≤ (n : Int) := by omega
          have hlz : ¬ (n : Int) - (p : Int) < 2 := by omega
          generalize Num ((l.drop p).take 2) = x at HNUM HRUN
          go_wp2_with fail
          refine (HNUM.out).mono ?_
          rintro e w2 ⟨rfl, rfl⟩
          go_wp2_with (at_builtin; refine Lib.wpList_append_run _ rfl _ _ 29 29 rfl (.slice ao i co) _ (by rfl) (by rfl) _ _ HRUN.out ?_)
          go_roundw
          case rel => exact ⟨i + 1, a2, c2, p + 2, by omega, by omega, by go_num, by go_num, rfl, Lib.hid ⟨HN.out, HPOS.out.symm⟩⟩
          case measure => simp [intOf]; omega
        · obtain rfl : i = F := by omega
          have hno := HBAD.out hlt
          have hq : n < p + 2 := by
            refine Nat.lt_of_not_le fun hq => hno ?_
            unfold noAt; rw [← HP.out.2, hk2]; simp [stepNo]; omega
          have hv : noAt ks ns n i = 20 := by unfold noAt; rw [← HP.out.2, hk2]; simp [stepNo]; omega
          have hlz : (n : Int) - (p : Int) < 2 := by omega
          have HV := Lib.hid hv; clear hv hno
          clear HPW HBW
          go_wp2
          refine bodyPost_ret (v := .tuple #[.slice none 0 0, .int .i64 0, .int .i64 20]) (by simp [results, Try.results54, go_sem]) rfl ?_
          exact ⟨fun e => by omega, fun _ => ⟨by rw [HV.out], HWW.out⟩⟩
      by_cases hk4 : ks i = 4
      · rw [hk4]
        by_cases hiF : i < F
        · have hno := HOK.out i hiF
          have hq : p + 4 ≤ n := by
            unfold noAt at hno; rw [← HP.out.2, hk4] at hno; simp [stepNo] at hno; omega
          have hX : gotX ks ns l i = Num ((l.drop p).take 4) := by unfold gotX; rw [HLN.out, ← HP.out.2, hk4]; rfl
          have hBn : gotB ks ns l i = [] := by unfold gotB; rw [hk4]; rfl
          have hpos : pos ks ns n (i + 1) = p + 4 := by simp only [pos]; rw [← HP.out.2, hk4]; rfl
          have hsl := run_mid a n c p 4 ((p : Int) + 4) rfl hq hc
          have HNUM := Lib.hid (rnum_any (restA a c p) 4 (c - p) _ W ((restA_bat HBW.out hc p hp).take 4 (by omega)) (by decide))
          obtain ⟨a2, c2, w3, hrun, hN⟩ := HPW.out.next (Below.refl _ W) none 0 (by rw [hBn]; exact own_no _ _) (by omega) 29
          rw [hX, hBn, List.length_nil] at hrun
          have HRUN := Lib.hid hrun; have HN := Lib.hid hN; have HPOS := Lib.hid hpos
          clear hrun hN hX hBn hpos hno HPW HBW
          have hpz : (p : Int) + 4 ≤ (n : Int) := by omega
          have hlz : ¬ (n : Int) - (p : Int) < 4 := by omega
          generalize Num ((l.drop p).take 4) = x at HNUM HRUN
          go_wp2_with fail
          refine (HNUM.out).mono ?_
          rintro e w2 ⟨rfl, rfl⟩
          go_wp2_with (at_builtin; refine Lib.wpList_append_run _ rfl _ _ 29 29 rfl (.slice ao i co) _ (by rfl) (by rfl) _ _ HRUN.out ?_)
          go_roundw
          case rel => exact ⟨i + 1, a2, c2, p + 4, by omega, by omega, by go_num, by go_num, rfl, Lib.hid ⟨HN.out, HPOS.out.symm⟩⟩
          case measure => simp [intOf]; omega
        · obtain rfl : i = F := by omega
          have hno := HBAD.out hlt
          have hq : n < p + 4 := by
            refine Nat.lt_of_not_le fun hq => hno ?_
            unfold noAt; rw [← HP.out.2, hk4]; simp [stepNo]; omega
          have hv : noAt ks ns n i = 20 := by unfold noAt; rw [← HP.out.2, hk4]; simp [stepNo]; omega
          have hlz : (n : Int) - (p : Int) < 4 := by omega
          have HV := Lib.hid hv; clear hv hno
          clear HPW HBW
          go_wp2
          refine bodyPost_ret (v := .tuple #[.slice none 0 0, .int .i64 0, .int .i64 20]) (by simp [results, Try.results54, go_sem]) rfl ?_
          exact ⟨fun e => by omega, fun _ => ⟨by rw [HV.out], HWW.out⟩⟩
      by_cases hk8 : ks i = 8
      · rw [hk8]
        by_cases hiF : i < F
        · have hno := HOK.out i hiF
          have hq : p + 8 ≤ n := by
            unfold noAt at hno; rw [← HP.out.2, hk8] at hno; simp [stepNo] at hno; omega
          have hX : gotX ks ns l i = Num ((l.drop p).take 8) := by unfold gotX; rw [HLN.out, ← HP.out.2, hk8]; rfl
          have hBn : gotB ks ns l i = [] := by unfold gotB; rw [hk8]; rfl
          have hpos : pos ks ns n (i + 1) = p + 8 := by simp only [pos]; rw [← HP.out.2, hk8]; rfl
          have hsl := run_mid a n c p 8 ((p : Int) + 8) rfl hq hc
          have HNUM := Lib.hid (rnum_any (restA a c p) 8 (c - p) _ W ((restA_bat HBW.out hc p hp).take 8 (by omega)) (by decide))
          obtain ⟨a2, c2, w3, hrun, hN⟩ := HPW.out.next (Below.refl _ W) none 0 (by rw [hBn]; exact own_no _ _) (by omega) 29
          rw [hX, hBn, List.length_nil] at hrun
          have HRUN := Lib.hid hrun; have HN := Lib.hid hN; have HPOS := Lib.hid hpos
          clear hrun hN hX hBn hpos hno HPW HBW
          have hpz : (p : Int) + 8 ≤ (n : Int) := by omega
          have hlz : ¬ (n : Int) - (p : Int) < 8 := by omega
          generalize Num ((l.drop p).take 8) = x at HNUM HRUN
          go_wp2_with fail
          refine (HNUM.out).mono ?_
          rintro e w2 ⟨rfl, rfl⟩
          go_wp2_with (at_builtin; refine Lib.wpList_append_run _ rfl _ _ 29 29 rfl (.slice ao i co) _ (by rfl) (by rfl) _ _ HRUN.out ?_)
          go_roundw
          case rel => exact ⟨i + 1, a2, c2, p + 8, by omega, by omega, by go_num, by go_num, rfl, Lib.hid ⟨HN.out, HPOS.out.symm⟩⟩
          case measure => simp [intOf]; omega
        · obtain rfl : i = F := by omega
          have hno := HBAD.out hlt
          have hq : n < p + 8 := by
            refine Nat.lt_of_not_le fun hq => hno ?_
            unfold noAt; rw [← HP.out.2, hk8]; simp [stepNo]; omega
          have hv : noAt ks ns n i = 20 := by unfold noAt; rw [← HP.out.2, hk8]; simp [stepNo]; omega
          have hlz : (n : Int) - (p : Int) < 8 := by omega
          have HV := Lib.hid hv; clear hv hno
          clear HPW HBW
          go_wp2
          refine bodyPost_ret (v := .tuple #[.slice none 0 0, .int .i64 0, .int .i64 20]) (by simp [results, Try.results54, go_sem]) rfl ?_
          exact ⟨fun e => by omega, fun _ => ⟨by rw [HV.out], HWW.out⟩⟩
      by_cases hk0 : ks i = 0
      · rw [hk0]
        by_cases hiF : i < F
        · have hno := HOK.out i hiF
          have hm : (ns i) ≤ (n : Int) - p := by
            unfold noAt at hno; rw [← HP.out.2, hk0] at hno; simp [stepNo] at hno; omega
          obtain ⟨q, hqe⟩ : ∃ q, (ns i).toNat = q := ⟨_, rfl⟩
          have hX : gotX ks ns l i = 0 := by unfold gotX; rw [hk0]; rfl
          have hBn : gotB ks ns l i = (l.drop p).take q := by unfold gotB; rw [HLN.out, ← HP.out.2, hk0]; simp [stepB, stepK, hqe]
          have hpos : pos ks ns n (i + 1) = p + q := by simp only [pos]; rw [← HP.out.2, hk0]; simp [stepK, hqe]
          have hlq : ((l.drop p).take q).length = q := by rw [List.length_take, List.length_drop, HLN.out]; omega
          have HX := Lib.hid hX; have HBN := Lib.hid hBn; have HPOS := Lib.hid hpos; have HLQ := Lib.hid hlq
          have hsl := run_mid a n c p q ((p : Int) + q) rfl (by omega) hc
          have HCP := Lib.hid (copy_any (restA a c p) q (c - p) _ W ((restA_bat HBW.out hc p hp).take q (by omega)) (by omega))
          clear hX hBn hpos hlq hno
          have hpz : (p : Int) + q ≤ (n : Int) := by omega
          have hlz : ¬ (n : Int) - (p : Int) < (q : Int) := by omega
          have hq0 : (0 : Int) ≤ (q : Int) := by omega
          by_cases hneg : ns i < 0
          · obtain rfl : q = 0 := by omega
            simp only [Int.ofNat_zero, Int.add_zero] at hsl
            generalize ns i = m at hneg ⊢
            go_wp2_with fail
            refine (HCP.out).mono ?_
            rintro e w2 ⟨a5, c5, rfl, hO5, hB5⟩
            obtain ⟨a2, c2, w3, hrun, hN⟩ := HPW.out.next hB5 a5 c5 (by rw [HBN.out, HLQ.out]; exact hO5) (by omega) 29
            rw [HX.out, HBN.out, HLQ.out] at hrun
            have HRUN := Lib.hid hrun; have HN := Lib.hid hN; clear hrun hN hO5 hB5
            go_wp2_with (at_builtin; refine Lib.wpList_append_run _ rfl _ _ 29 29 rfl (.slice ao i co) _ (by rfl) (by rfl) _ _ HRUN.out ?_)
            go_roundw
            case rel => exact ⟨i + 1, a2, c2, p + 0, by omega, by omega, by go_num, by go_num, rfl, Lib.hid ⟨HN.out, HPOS.out.symm⟩⟩
            case measure => simp [intOf]; omega
          · have hqm : ns i = (q : Int) := by omega
            rw [hqm]
            have hneg' : ¬ (q : Int) < 0 := by omega
            clear hneg hqm hm hqe
            go_wp2_with fail
            refine (HCP.out).mono ?_
            rintro e w2 ⟨a5, c5, rfl, hO5, hB5⟩
            obtain ⟨a2, c2, w3, hrun, hN⟩ := HPW.out.next hB5 a5 c5 (by rw [HBN.out, HLQ.out]; exact hO5) (by omega) 29
            rw [HX.out, HBN.out, HLQ.out] at hrun
            have HRUN := Lib.hid hrun; have HN := Lib.hid hN; clear hrun hN hO5 hB5
            go_wp2_with (at_builtin; refine Lib.wpList_append_run _ rfl _ _ 29 29 rfl (.slice ao i co) _ (by rfl) (by rfl) _ _ HRUN.out ?_)
            go_roundw
            case rel => exact ⟨i + 1, a2, c2, p + q, by omega, by omega, by go_num, by go_num, rfl, Lib.hid ⟨HN.out, HPOS.out.symm⟩⟩
            case measure => simp [intOf]; omega
        · obtain rfl : i = F := by omega
          have hno := HBAD.out hlt
          have hq : (n : Int) - p < ns i := by
            refine Int.lt_of_not_ge fun hq => hno ?_
            unfold noAt; rw [← HP.out.2, hk0]; simp [stepNo]; omega
          have hv : noAt ks ns n i = 20 := by unfold noAt; rw [← HP.out.2, hk0]; simp [stepNo]; omega
          have hneg : ¬ ns i < 0 := by omega
          generalize ns i = m at hq hneg ⊢
          have HV := Lib.hid hv; clear hv hno
          clear HPW HBW
          go_wp2
          refine bodyPost_ret (v := .tuple #[.slice none 0 0, .int .i64 0, .int .i64 20]) (by simp [results, Try.results54, go_sem]) rfl ?_
          exact ⟨fun e => by omega, fun _ => ⟨by rw [HV.out], HWW.out⟩⟩
      have hk0z : (ks i == 0) = false := by simpa using hk0
      have hk1z : (ks i == 1) = false := by simpa using hk1
      have hk2z : (ks i == 2) = false := by simpa using hk2
      have hk4z : (ks i == 4) = false := by simpa using hk4
      have hk8z : (ks i == 8) = false := by simpa using hk8
      by_cases hkm1 : ks i = -1
      · rw [hkm1]
        have hno : noAt ks ns n i = 0 := by unfold noAt; rw [hkm1]; simp [stepNo]
        have hiF : i < F := by
          refine Nat.lt_of_le_of_ne hi fun e => ?_
          subst e
          exact HBAD.out hlt hno
        have hX : gotX ks ns l i = 0 := by unfold gotX; rw [hkm1]; rfl
        have hBn : gotB ks ns l i = l.drop p := by
          unfold gotB; rw [HLN.out, ← HP.out.2, hkm1]; unfold stepB; rw [if_pos (Or.inr rfl)]; exact List.take_of_length_le (by simp [stepK])
        have hpos : pos ks ns n (i + 1) = n := by simp only [pos]; rw [← HP.out.2, hkm1]; simp [stepK]; omega
        have hlq : (l.drop p).length = n - p := by rw [List.length_drop, HLN.out]
        have HX := Lib.hid hX; have HBN := Lib.hid hBn; have HPOS := Lib.hid hpos; have HLQ := Lib.hid hlq
        have hsl := run_rest a n c p hp (by omega)
        have HCP := Lib.hid (copy_any (restA a c p) (n - p) (c - p) _ W (restA_bat HBW.out hc p hp) (by omega))
        have hpz : (p : Int) ≤ (n : Int) := by omega
        obtain ⟨q, hqe⟩ : ∃ q, n - p = q := ⟨_, rfl⟩
        rw [hqe] at hsl HCP HLQ
        clear hX hBn hpos hlq hno hk0z hk1z hk2z hk4z hk8z
        go_wp2_with fail
        refine (HCP.out).mono ?_
        rintro e w2 ⟨a5, c5, rfl, hO5, hB5⟩
        obtain ⟨a2, c2, w3, hrun, hN⟩ := HPW.out.next hB5 a5 c5 (by rw [HBN.out, HLQ.out]; exact hO5) (by omega) 29
        rw [HX.out, HBN.out, HLQ.out] at hrun
        have HRUN := Lib.hid hrun; have HN := Lib.hid hN; clear hrun hN hO5 hB5
        go_wp2_with (at_builtin; refine Lib.wpList_append_run _ rfl _ _ 29 29 rfl (.slice ao i co) _ (by rfl) (by rfl) _ _ HRUN.out ?_)
        go_roundw
        case rel => exact ⟨i + 1, a2, c2, n, by omega, by omega, by go_num, by go_num, rfl, Lib.hid ⟨HN.out, HPOS.out.symm⟩⟩
        case measure => simp [intOf]; omega
      have hkm1z : (ks i == -1) = false := by simpa using hkm1
      by_cases hkm2 : ks i = -2
      · rw [hkm2]
        have hno : noAt ks ns n i ≠ 0 := by unfold noAt; rw [hkm2]; simp [stepNo, failOf]; split <;> omega
        obtain rfl : i = F := by
          refine Nat.le_antisymm hi (Nat.le_of_not_lt fun e => ?_)
          exact hno (HOK.out i e)
        clear hk0z hk1z hk2z hk4z hk8z hkm1z HPW HBW hno
        by_cases hm0 : ns i = 0
        · have hv : noAt ks ns n i = 21 := by unfold noAt; rw [hkm2]; simp [stepNo, failOf, hm0]
          rw [hm0]
          have HV := Lib.hid hv; clear hv
          go_wp2
          refine bodyPost_ret (v := .tuple #[.slice none 0 0, .int .i64 0, .int .i64 21]) (by simp [results, Try.results54, go_sem]) rfl ?_
          exact ⟨fun e => by omega, fun _ => ⟨by rw [HV.out], HWW.out⟩⟩
        · have hv : noAt ks ns n i = ns i := by unfold noAt; rw [hkm2]; simp [stepNo, failOf, hm0]
          have hmz : (ns i == 0) = false := by simpa using hm0
          have HV := Lib.hid hv; clear hv
          generalize ns i = m at hmz HV ⊢
          go_wp2
          refine bodyPost_ret (v := .tuple #[.slice none 0 0, .int .i64 0, .int .i64 m]) (by simp [results, Try.results54, go_sem]) rfl ?_
          exact ⟨fun e => by omega, fun _ => ⟨by rw [HV.out], HWW.out⟩⟩
      have hkm2z : (ks i == -2) = false := by simpa using hkm2
      have hno : noAt ks ns n i = 0 := by unfold noAt; simp [stepNo, hk0, hk1, hk2, hk4, hk8, hkm2]
      have hiF : i < F := by
        refine Nat.lt_of_le_of_ne hi fun e => ?_
        subst e
        exact HBAD.out hlt hno
      have hX : gotX ks ns l i = (n : Int) - p := by
        unfold gotX; rw [HLN.out, ← HP.out.2]; simp [stepX, hk0, hk1, hk2, hk4, hk8, hkm1, HLN.out]; omega
      have hBn : gotB ks ns l i = [] := by unfold gotB; simp [stepB, hk0, hkm1]
      have hpos : pos ks ns n (i + 1) = p := by simp only [pos]; rw [← HP.out.2]; simp [stepK, hk0, hk1, hk2, hk4, hk8, hkm1]
      obtain ⟨a2, c2, w3, hrun, hN⟩ := HPW.out.next (Below.refl _ W) none 0 (by rw [hBn]; exact own_no _ _) (by omega) 29
      rw [hX, hBn, List.length_nil] at hrun
      have HRUN := Lib.hid hrun; have HN := Lib.hid hN; have HPOS := Lib.hid hpos
      clear hrun hN hX hBn hpos hno HPW HBW
      have hpz : (p : Int) ≤ (n : Int) := by omega
      generalize ks i = k at hk0z hk1z hk2z hk4z hk8z hkm1z hkm2z ⊢
      go_wp2_with (at_builtin; refine Lib.wpList_append_run _ rfl _ _ 29 29 rfl (.slice ao i co) _ (by rfl) (by rfl) _ _ HRUN.out ?_)
      go_roundw
      case rel => exact ⟨i + 1, a2, c2, p, by omega, by omega, by go_num, rfl, rfl, Lib.hid ⟨HN.out, HPOS.out.symm⟩⟩
      case measure => simp [intOf]; omega
    · have hltz : ¬ (i : Int) < (n0 : Int) := by omega
      obtain rfl : i = n0 := by omega
      obtain rfl : i = F := by omega
      go_wp2
      refine bodyPost_ret (v := .tuple #[.slice ao i co, .int .i64 p, .int .i64 0]) (by simp [results, Try.results54, go_sem]) rfl ?_
      refine ⟨fun _ => ⟨ao, co, ?_, HP.out.1.1, HP.out.1.2⟩, fun e => by omega⟩
      rw [← HP.out.2]
end Go.Proofs.Ytknpdcnhdmbbiaa

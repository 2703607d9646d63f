/-
  The reference of layer 2: From.
-/
import Derived.Test.YtedhmoihlfjbdaaRefSeqs
import Derived.Test.YtedhmoihlfjbdaaMaskD
namespace Go.Proofs.Ytedhmoihlfjbdaa
open Go.RowKit
set_option linter.unusedVariables false
/-- Is i among the first k? -/
def Cv.any (zs : List Int) (i : Nat) : Nat → Bool | 0 => false | k + 1 => Cv.any zs i k || decide (zs.getD k 0 = i)
set_option maxHeartbeats 1000000 in
set_option maxRecDepth 100000 in
theorem rfrom2_any (a : Option Addr) (len cap : Nat) (zs : List Int) (w : World) (hz : Ints a len zs w) (hlen : len < 4611686018427387904) (Y : Nat) (hY : ∀ i, i < 128 → Y.testBit (127 - i) = Cv.any zs i len) :
    Calls Try.prog 135 #[.slice a len cap] w (BlPost Y w) := by
  have HZ := Lib.hid hz; have HY := Lib.hid hY; clear hz hY
  have hO0 : (w.alloc (.cells #[] 4)).ownsRow w.heap.size 4 1 (.slice (some ⟨w.heap.size, 0, none⟩) 0 0) 0 [] := World.ownsRow_made w _ 0 (Nat.le_refl _) (by decide) rfl
  have hB0 : Below w.heap.size w (w.alloc (.cells #[] 4)) := (Below.refl _ w).alloc (Nat.le_refl _) _
  go_enter Try.func135, Try.ntmps135
  go_wp2
  generalize w.alloc (.cells #[] 4) = W0 at hO0 hB0 ⊢
  go_loopw [3, 4] (fun o i wr => ∃ (k : Nat) (a : Option Addr) (c : Nat), k ≤ 128 ∧ i = .int .i64 k ∧ o = .slice a k c ∧ Hid (wr.ownsRow w.heap.size 4 1 (.slice a k c) k (Cv.bls Y k) ∧ Below w.heap.size w wr)) (fun _ i _ => 128 - (intOf i).toNat)
  case atStart => exact ⟨0, some ⟨w.heap.size, 0, none⟩, 0, by omega, rfl, rfl, Lib.hid ⟨hO0, hB0⟩⟩
  case round =>
    clear hO0 hB0
    obtain ⟨i, ao, co, hi, rfl, rfl, HW⟩ := hrel
    by_cases hlt : i < 128
    · have hltz : (i : Int) < 128 := by omega
      go_wp2
      go_loop [5, 6] (fun t j => ∃ k : Nat, k ≤ len ∧ j = .int .i64 k ∧ t = .bool (Cv.any zs i k)) (fun _ j => len - (intOf j).toNat)
      case atStart => exact ⟨0, Nat.zero_le _, rfl, rfl⟩
      case round =>
        obtain ⟨k, hk, rfl, rfl⟩ := hrel
        by_cases hlk : k < len
        · have hlkz : (k : Int) < (len : Int) := by omega
          obtain ⟨b, off, rfl, hbl, hck, _, _⟩ := HZ.out k hlk
          have ck := (HW.out.2.cell (p := ⟨b, off + k, none⟩) hbl).trans hck
          clear hck
          have hs : Cv.any zs i (k + 1) = (Cv.any zs i k || decide (zs.getD k 0 = i)) := rfl
          generalize zs.getD k 0 = z at *
          generalize Cv.any zs i k = t at *
          have HS := Lib.hid hs; clear hs
          cases t
          all_goals
            go_wp2
            go_round
            case rel => exact ⟨k + 1, by omega, by go_num, by rw [HS.out]; simp; try rfl⟩
            case measure => simp [intOf]; omega
        · obtain rfl : k = len := by omega
          have hsn := Cv.bls_succ Y i
          rw [HY.out i hlt] at hsn
          generalize Cv.any zs i k = bb at *
          have HSN := Lib.hid hsn; clear hsn
          obtain ⟨a5, c5, w5, hrun, hO5, hB5⟩ := append_bool wr 150 w.heap.size ao i co _ HW.out.1 bb (by omega) HW.out.2.size
          have HRUN := Lib.hid hrun; have HO5 := Lib.hid hO5; have HB5 := Lib.hid hB5; clear hrun hO5 hB5
          go_wp2_with (at_builtin; refine Lib.wpList_append_run _ rfl (.tmp 27) (.tmp 29) 150 150 rfl (.slice ao i co) _ (by rfl) (by rfl) _ _ HRUN.out ?_)
          go_roundw
          case rel => exact ⟨i + 1, a5, c5, by omega, by go_num, rfl, Lib.hid ⟨by rw [HSN.out]; exact HO5.out, HW.out.2.trans HB5.out⟩⟩
          case measure => simp [intOf]; omega
    · obtain rfl : i = 128 := by omega
      obtain ⟨g, rfl, hbl, h1, h2⟩ := bls_of_own HW.out.1
      go_wp2
      refine bodyPost_ret (v := .slice (some ⟨g, 0, none⟩) 128 co) (by simp [results, Try.results135, go_sem]) rfl ?_
      exact ⟨g, co, rfl, hbl, h1, h2, HW.out.2⟩
end Go.Proofs.Ytedhmoihlfjbdaa
namespace Go.Proofs.Ytedhmoihlfjbdaa
open Go.RowKit
set_option linter.unusedVariables false
/-- The first k of 64 bits as a number. -/
def Cv.pre (H k : Nat) : Nat := H / 2 ^ (64 - k)
theorem Cv.pre_zero {H : Nat} (h : H < 18446744073709551616) : Cv.pre H 0 = 0 := Nat.div_eq_of_lt h
theorem Cv.pre_all (H : Nat) : Cv.pre H 64 = H := by unfold Cv.pre; simp
theorem Cv.pre_succ (H k : Nat) (hk : k < 64) : Cv.pre H (k + 1) = 2 * Cv.pre H k + (if H.testBit (63 - k) then 1 else 0) := by
  unfold Cv.pre
  rw [show 64 - k = (63 - k) + 1 by omega, show 64 - (k + 1) = 63 - k by omega, Nat.pow_succ, ← Nat.div_div_eq_div_mul, Nat.testBit_eq_decide_div_mod_eq]
  generalize H / 2 ^ (63 - k) = y
  by_cases h : y % 2 = 1
  · simp [h]; omega
  · simp [h]; omega
theorem Cv.pre_lt {H k : Nat} (h : H < 18446744073709551616) (hk : k < 64) : Cv.pre H k < 9223372036854775808 := by
  unfold Cv.pre
  rw [Nat.div_lt_iff_lt_mul (Nat.two_pow_pos _)]
  calc H < 9223372036854775808 * 2 ^ 1 := h
    _ ≤ 9223372036854775808 * 2 ^ (64 - k) := Nat.mul_le_mul_left _ (Nat.pow_le_pow_right (by decide) (by omega))
theorem u64w2 (y : Nat) (h : y < 18446744073709551616) : IntKind.u64.wrap (y : Int) = y := by rw [u64w]; omega
set_option maxHeartbeats 1000000 in
set_option maxRecDepth 100000 in
theorem rnums_any (g X cap : Nat) (hX : Mk.Ok X) (w : World) (hb : Bls g X w) :
    Calls Try.prog 134 #[.slice (some ⟨g, 0, none⟩) 128 cap] w fun e w' => e = .returned (.tuple #[.int .u64 (Mk.H X), .int .u64 (Mk.L X)]) ∧ w' = w := by
  have hHb := Mk.H_lt hX; have hLb := Mk.L_lt X
  have hH : ∀ k, k < 64 → X.testBit (127 - k) = (Mk.H X).testBit (63 - k) := fun k hk => by rw [Mk.H_bit]; congr 1; omega
  have hL : ∀ k, k < 64 → X.testBit (127 - (64 + k)) = (Mk.L X).testBit (63 - k) := fun k hk => by rw [Mk.L_bit, show 127 - (64 + k) = 63 - k by omega]; simp; omega
  have h1 : ∀ k, k < 64 → w.cell? ⟨g, k, none⟩ = some (.bool ((Mk.H X).testBit (63 - k))) := fun k hk => by rw [← hH k hk]; exact hb k (by omega)
  have h2 : ∀ k, k < 64 → w.cell? ⟨g, 64 + k, none⟩ = some (.bool ((Mk.L X).testBit (63 - k))) := fun k hk => by rw [← hL k hk]; exact hb (64 + k) (by omega)
  generalize Mk.H X = H at *
  generalize Mk.L X = L at *
  have H1 := Lib.hid h1; have H2 := Lib.hid h2; clear h1 h2 hH hL hb
  go_enter Try.func134, Try.ntmps134
  go_wp2
  go_loop [4, 5, 6] (fun h l i => ∃ k : Nat, k ≤ 64 ∧ i = .int .i64 k ∧ h = .int .u64 (Cv.pre H k) ∧ l = .int .u64 (Cv.pre L k)) (fun _ _ i => 64 - (intOf i).toNat)
  case atStart => exact ⟨0, by omega, rfl, by rw [Cv.pre_zero hHb]; rfl, by rw [Cv.pre_zero hLb]; rfl⟩
  case round =>
    obtain ⟨k, hk, rfl, rfl, rfl⟩ := hrel
    by_cases hlt : k < 64
    · have hltz : (k : Int) < 64 := by omega
      have c1 := H1.out k hlt
      have c2 := H2.out k hlt
      have s1 := Cv.pre_succ H k hlt
      have s2 := Cv.pre_succ L k hlt
      have b1 := Cv.pre_lt hHb hlt
      have b2 := Cv.pre_lt hLb hlt
      have hidx : wrap64 (64 + (k : Int)) = ((64 + k : Nat) : Int) := by rw [w64_in _ (by omega) (by omega)]; omega
      generalize H.testBit (63 - k) = t1 at *
      generalize L.testBit (63 - k) = t2 at *
      generalize Cv.pre H k = P at *
      generalize Cv.pre L k = R at *
      have m1 : IntKind.u64.wrap ((P : Int) * 2) = ((2 * P : Nat) : Int) := by rw [u64w]; omega
      have m2 : IntKind.u64.wrap ((R : Int) * 2) = ((2 * R : Nat) : Int) := by rw [u64w]; omega
      have m3 : IntKind.u64.wrap (((2 * P : Nat) : Int) + 1) = ((2 * P + 1 : Nat) : Int) := by rw [u64w]; omega
      have m4 : IntKind.u64.wrap (((2 * R : Nat) : Int) + 1) = ((2 * R + 1 : Nat) : Int) := by rw [u64w]; omega
      generalize hP2 : 2 * P + 1 = P2 at *
      generalize hR2 : 2 * R + 1 = R2 at *
      generalize hP1 : 2 * P = P1 at *
      generalize hR1 : 2 * R = R1 at *
      have S1 := Lib.hid s1; have S2 := Lib.hid s2; have E1 := Lib.hid hP2; have E2 := Lib.hid hR2
      clear s1 s2 hP2 hR2 hP1 hR1 b1 b2
      cases t1 <;> cases t2
      all_goals
        go_wp2
        go_round
        case rel => exact ⟨k + 1, by omega, by go_num, val_int (by rw [S1.out]; have := E1.out; simp; try omega), val_int (by rw [S2.out]; have := E2.out; simp; try omega)⟩
        case measure => simp [intOf]; omega
    · obtain rfl : k = 64 := by omega
      rw [Cv.pre_all, Cv.pre_all]
      go_wp2
      go_ret2
      exact ⟨rfl, rfl⟩
end Go.Proofs.Ytedhmoihlfjbdaa
namespace Go.Proofs.Ytedhmoihlfjbdaa
open Go.RowKit
set_option linter.unusedVariables false
/-- Is x among the first k? -/
def Cv.anyZ (zs : List Int) (x : Int) : Nat → Bool | 0 => false | k + 1 => Cv.anyZ zs x k || decide (zs.getD k 0 = x)
/-- How far the first k are ahead. -/
def Cv.ds (b : Int) (zs : List Int) (k : Nat) : List Int := (List.range k).map fun j => Ser.ahead (zs.getD j 0) b
theorem Cv.ds_succ (b : Int) (zs : List Int) (k : Nat) : Cv.ds b zs (k + 1) = Cv.ds b zs k ++ [Ser.ahead (zs.getD k 0) b] := by unfold Cv.ds; rw [List.range_succ, List.map_append]; rfl
theorem Cv.ds_len (b : Int) (zs : List Int) (k : Nat) : (Cv.ds b zs k).length = k := by unfold Cv.ds; simp
/-- Is one of the first k there twice? -/
def Cv.tw (b : Int) (zs : List Int) : Nat → Bool | 0 => false | k + 1 => Cv.tw b zs k || Cv.anyZ (Cv.ds b zs k) (Ser.ahead (zs.getD k 0) b) k
/-- The reference's error. -/
def Cv.rcode (b : Int) (zs : List Int) (n : Nat) : Int := if n = 0 then 4 else if Cv.all b zs n = false then 31 else if Cv.tw b zs n = true then 5 else 0
def RfPost (b : Int) (zs : List Int) (n Y : Nat) (w : World) (e : Ending) (w' : World) : Prop :=
  e = .returned (.tuple #[.int .u64 (Mk.H (if Cv.rcode b zs n = 0 then Y else 0)), .int .u64 (Mk.L (if Cv.rcode b zs n = 0 then Y else 0)), .int .i64 (Cv.rcode b zs n)]) ∧ Below w.heap.size w w'
set_option maxHeartbeats 1000000 in
set_option maxRecDepth 100000 in
theorem rfrom11_any (b : Int) (hb0 : 0 ≤ b) (hb1 : b < 65536) (a : Option Addr) (len cap : Nat) (zs : List Int) (w : World) (hz : U16s a len zs w) (hzb : ∀ k, k < len → 0 ≤ zs.getD k 0 ∧ zs.getD k 0 < 65536) (hlen : len < 1000000)
    (Y : Nat) (hY : Mk.Ok Y) (hYb : ∀ i, i < 128 → Y.testBit (127 - i) = Cv.any (Cv.ds b zs len) i len) :
    Calls Try.prog 95 #[.int .u16 b, .slice a len cap] w (RfPost b zs len Y w) := by
  have HZ := Lib.hid hz; have HZB := Lib.hid hzb; have HYB := Lib.hid hYb; clear hz hzb hYb
  have hO0 : (w.alloc (.cells #[] 3)).ownsRow w.heap.size 3 1 (.slice (some ⟨w.heap.size, 0, none⟩) 0 0) 0 [] := World.ownsRow_made w _ 0 (Nat.le_refl _) (by decide) rfl
  have hB0 : Below w.heap.size w (w.alloc (.cells #[] 3)) := (Below.refl _ w).alloc (Nat.le_refl _) _
  unfold RfPost
  by_cases h0 : len = 0
  · subst h0
    have e4 : Cv.rcode b zs 0 = 4 := rfl
    rw [e4, if_neg (by decide)]
    go_enter Try.func95, Try.ntmps95
    go_wp2
    refine bodyPost_ret (v := .tuple #[.int .u64 0, .int .u64 0, .int .i64 4]) (by simp [results, Try.results95, go_sem]) rfl ⟨rfl, Below.refl _ _⟩
  · have hne : ((len : Int) == 0) = false := beq_eq_false_iff_ne.2 (by omega)
    go_enter Try.func95, Try.ntmps95
    go_wp2
    generalize w.alloc (.cells #[] 3) = W0 at hO0 hB0 ⊢
    go_loopw [7, 8, 9] (fun o t i wr => ∃ (k : Nat) (a : Option Addr) (c : Nat), k ≤ len ∧ i = .int .i64 k ∧ o = .slice a k c ∧ t = .bool (Cv.tw b zs k) ∧ Hid (Cv.all b zs k = true ∧ wr.ownsRow w.heap.size 3 1 (.slice a k c) k ((Cv.ds b zs k).map (Value.int .i64)) ∧ Below w.heap.size w wr)) (fun _ _ i _ => len - (intOf i).toNat)
    case atStart => exact ⟨0, some ⟨w.heap.size, 0, none⟩, 0, by omega, rfl, rfl, rfl, Lib.hid ⟨rfl, hO0, hB0⟩⟩
    case round =>
      clear hO0 hB0
      obtain ⟨k, ao, co, hk, rfl, rfl, rfl, HW⟩ := hrel
      by_cases hlt : k < len
      · have hltz : (k : Int) < (len : Int) := by omega
        obtain ⟨bl, off, rfl, hbl, hck⟩ := HZ.out k hlt
        have ck := (HW.out.2.2.cell (p := ⟨bl, off + k, none⟩) hbl).trans hck
        clear hck
        obtain ⟨z0, z1⟩ := HZB.out k hlt
        have hah := fun w => refahead_any (zs.getD k 0) b z0 z1 hb0 hb1 w
        have hbd := Ser.ahead_bd (zs.getD k 0) b
        have hsn := Cv.ds_succ b zs k
        have hdl := Cv.ds_len b zs k
        have htw : Cv.tw b zs (k + 1) = (Cv.tw b zs k || Cv.anyZ (Cv.ds b zs k) (Ser.ahead (zs.getD k 0) b) k) := rfl
        have hal : Cv.all b zs (k + 1) = (Cv.all b zs k && (decide (0 ≤ Ser.ahead (zs.getD k 0) b) && decide (Ser.ahead (zs.getD k 0) b < 109))) := rfl
        have hno := fun h : ¬ Cv.In b zs k => Cv.all_no hlt h
        unfold Cv.In at hno
        generalize Ser.ahead (zs.getD k 0) b = d at *
        generalize zs.getD k 0 = z at *
        have HAH := Lib.hid hah; have HSN := Lib.hid hsn; have HDL := Lib.hid hdl; have HTW := Lib.hid htw; have HAL := Lib.hid hal; have HNO := Lib.hid hno
        clear hah hsn hdl htw hal hno
        by_cases hin : 0 ≤ d ∧ d < 109
        · have hl0 : ¬ d < 0 := by omega
          have hl1 : ¬ 109 ≤ d := by omega
          generalize Cv.tw b zs k = t0 at *
          go_wp2_with (go_at_call 133; (with_reducible refine (HAH.out _).mono ?_); rintro e w' ⟨rfl, rfl⟩)
          go_loop [8, 11] (fun t j => ∃ m : Nat, m ≤ k ∧ j = .int .i64 m ∧ t = .bool (t0 || Cv.anyZ (Cv.ds b zs k) d m)) (fun _ j => k - (intOf j).toNat)
          case atStart => exact ⟨0, Nat.zero_le _, rfl, by simp [Cv.anyZ]⟩
          case round =>
            obtain ⟨m, hm, rfl, rfl⟩ := hrel
            by_cases hmk : m < k
            · have hmkz : (m : Int) < (k : Int) := by omega
              obtain ⟨x, hx⟩ : ∃ x, (Cv.ds b zs k)[m]? = some x := ⟨_, List.getElem?_eq_getElem (by rw [HDL.out]; exact hmk)⟩
              obtain ⟨gl, rfl, _, _, hcm⟩ := own_cell HW.out.2.1 (i := m) (x := .int .i64 x) (by simp [hx])
              have hs : Cv.anyZ (Cv.ds b zs k) d (m + 1) = (Cv.anyZ (Cv.ds b zs k) d m || decide (x = d)) := by
                show (_ || decide ((Cv.ds b zs k).getD m 0 = d)) = _
                rw [List.getD_eq_getElem?_getD, hx]; rfl
              generalize Cv.anyZ (Cv.ds b zs k) d m = t1 at *
              have HS := Lib.hid hs; clear hs hx
              cases t0 <;> cases t1
              all_goals
                go_wp2
                go_round
                case rel => exact ⟨m + 1, by omega, by go_num, by rw [HS.out]; simp; try rfl⟩
                case measure => simp [intOf]; omega
            · obtain rfl : m = k := by omega
              obtain ⟨a5, c5, w5, hrun, hO5, hB5⟩ := append_i64 wr 23 w.heap.size ao m co _ HW.out.2.1 d (by omega) HW.out.2.2.size
              have HRUN := Lib.hid hrun; have HO5 := Lib.hid hO5; have HB5 := Lib.hid hB5; clear hrun hO5 hB5
              generalize hT : (t0 || Cv.anyZ (Cv.ds b zs m) d m) = T at *
              have HT := Lib.hid hT; clear hT
              go_wp2_with (at_builtin; refine Lib.wpList_append_run _ rfl (.tmp 51) (.tmp 53) 23 23 rfl (.slice ao m co) _ (by rfl) (by rfl) _ _ HRUN.out ?_)
              go_roundw
              case rel => exact ⟨m + 1, a5, c5, by omega, by go_num, rfl, by rw [HTW.out], Lib.hid ⟨by rw [HAL.out, HW.out.1]; simp; exact hin, by rw [HSN.out, List.map_append]; exact HO5.out, HW.out.2.2.trans HB5.out⟩⟩
              case measure => simp [intOf]; omega
        · have hf := HNO.out hin
          have e31 : Cv.rcode b zs len = 31 := by unfold Cv.rcode; rw [if_neg h0, if_pos hf]
          by_cases hl : d < 0
          · go_wp2_with (go_at_call 133; (with_reducible refine (HAH.out _).mono ?_); rintro e w' ⟨rfl, rfl⟩)
            refine bodyPost_ret (v := .tuple #[.int .u64 0, .int .u64 0, .int .i64 31]) (by simp [results, Try.results95, go_sem]) rfl ⟨by simp [Mk.H, Mk.L], HW.out.2.2⟩
          · have hl' : 109 ≤ d := by omega
            go_wp2_with (go_at_call 133; (with_reducible refine (HAH.out _).mono ?_); rintro e w' ⟨rfl, rfl⟩)
            refine bodyPost_ret (v := .tuple #[.int .u64 0, .int .u64 0, .int .i64 31]) (by simp [results, Try.results95, go_sem]) rfl ⟨by simp [Mk.H, Mk.L], HW.out.2.2⟩
      · obtain rfl : k = len := by omega
        have hal := HW.out.1
        by_cases htw : Cv.tw b zs k = true
        · have e5 : Cv.rcode b zs k = 5 := by unfold Cv.rcode; rw [if_neg h0, if_neg (by rw [hal]; simp), if_pos htw]
          rw [htw]
          go_wp2
          refine bodyPost_ret (v := .tuple #[.int .u64 0, .int .u64 0, .int .i64 5]) (by simp [results, Try.results95, go_sem]) rfl ⟨by simp [Mk.H, Mk.L], HW.out.2.2⟩
        · have hf : Cv.tw b zs k = false := by simpa using htw
          have e0 : Cv.rcode b zs k = 0 := by unfold Cv.rcode; rw [if_neg h0, if_neg (by rw [hal]; simp), if_neg htw]
          rw [hf]
          have hfr := rfrom2_any ao k co (Cv.ds b zs k) wr (fun j hj => by
            obtain ⟨x, hx⟩ : ∃ x, (Cv.ds b zs k)[j]? = some x := ⟨_, List.getElem?_eq_getElem (by rw [Cv.ds_len]; exact hj)⟩
            obtain ⟨gl, rfl, _, hg, hcm⟩ := own_cell HW.out.2.1 (i := j) (x := .int .i64 x) (by simp [hx])
            have hxx : x = Ser.ahead (zs.getD j 0) b := by
              have := hx; unfold Cv.ds at this; simp [hj] at this; simpa using this.symm
            have hbd := Ser.ahead_bd (zs.getD j 0) b
            refine ⟨gl, 0, rfl, hg, ?_, ?_, ?_⟩
            · rw [Nat.zero_add, List.getD_eq_getElem?_getD, hx]; exact hcm
            · rw [List.getD_eq_getElem?_getD, hx, hxx]; show _ ≤ Ser.ahead (zs.getD j 0) b; omega
            · rw [List.getD_eq_getElem?_getD, hx, hxx]; show Ser.ahead (zs.getD j 0) b ≤ _; omega) (by omega) Y HYB.out
          have HFR := Lib.hid hfr; clear hfr
          have hnu := fun g c w => rnums_any g Y c hY w
          generalize hyh : Mk.H Y = YH at *
          generalize hyl : Mk.L Y = YL at *
          have HYH := Lib.hid hyh; have HYL := Lib.hid hyl; clear hyh hyl
          have HNU := Lib.hid hnu; clear hnu
          go_wp2_with (first
            | (go_at_call 135; (with_reducible refine (HFR.out).mono ?_); rintro e w1 ⟨g, cg, rfl, hbl, hg1, hg2, hB1⟩; have HB1 := Lib.hid hB1; have HBL := Lib.hid hbl; clear hB1 hbl)
            | (go_at_call 134; (with_reducible refine (HNU.out g cg _ HBL.out).mono ?_); rintro e w2 ⟨rfl, rfl⟩))
          refine bodyPost_ret (v := .tuple #[.int .u64 YH, .int .u64 YL, .int .i64 0]) (by simp [results, Try.results95, go_sem]) rfl ⟨by rw [HYH.out, HYL.out], HW.out.2.2.trans (HB1.out.mono HW.out.2.2.size)⟩
end Go.Proofs.Ytedhmoihlfjbdaa

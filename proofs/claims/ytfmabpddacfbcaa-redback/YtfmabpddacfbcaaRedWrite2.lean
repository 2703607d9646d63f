
/-
  red.Write.
-/
import Derived.Test.YtfmabpddacfbcaaRedWrite
import Derived.Deep.RegionHeld3
namespace Go.Proofs.Ytfmabpddacfbcaa
open Go.RowKit Go.Shelf
set_option linter.unusedVariables false
def rwcode (n : Nat) (pt of : Nat → Int) (ds : Nat → List Int) : Int :=
  if n = 0 then 4 else if 8 < n then 3 else if okF pt of n = false ∨ of (n - 1) ≠ 0 then 1 else if rlong ds (n - 1) (ds (n - 1)).length = true then 2 else 0
def rwbytes (n : Nat) (pt of : Nat → Int) (ds : Nat → List Int) : List Int := if rwcode n pt of ds = 0 then renc pt of ds (n - 1) else []
theorem rwcode_vld {n : Nat} {pt of : Nat → Int} {ds : Nat → List Int} (h : rwcode n pt of ds = 0) (ho : ∀ i, i < n → Str.Ok (ds i)) : ∃ k, n = k + 1 ∧ RVld pt of ds k := by
  unfold rwcode at h
  split at h
  · cases h
  · rename_i h0
    split at h
    · cases h
    · rename_i h8
      split at h
      · cases h
      · rename_i hf
        split at h
        · cases h
        · rename_i hl
          obtain ⟨k, rfl⟩ : ∃ k, n = k + 1 := ⟨n - 1, by omega⟩
          rw [Nat.add_sub_cancel] at hf hl
          have hok : okF pt of (k + 1) = true := by
            cases e : okF pt of (k + 1)
            · exact absurd (.inl e) hf
            · rfl
          have h00 : of k = 0 := by
            by_cases e : of k = 0
            · exact e
            · exact absurd (.inr e) hf
          have hall := (okF_all _).1 hok
          have hL : anyL ds k = false := by
            cases e : anyL ds k
            · rfl
            · exact absurd (by simp [rlong, e]) hl
          have hT : 4 * k + 1 + psum (fun i => (ds i).length) k + (ds k).length ≤ 1500 := by
            simp only [rlong, hL, Bool.false_or, decide_eq_true_eq] at hl; omega
          refine ⟨k, rfl, ⟨fun i hi => ?_, fun i hi => ?_, h00, fun i hi => ho i (by omega), by omega, (anyL_none k).1 hL, by simp only [psum]; omega⟩⟩
          · have := hall i (by omega)
            simp [okB, okPT] at this; omega
          · have := hall i (by omega)
            simp [okB, okPT] at this; omega
set_option maxHeartbeats 1000000 in
set_option maxRecDepth 100000 in
theorem redw_any (a : Option Addr) (n c : Nat) (pt of : Nat → Int) (A : Nat → Option Addr) (C : Nat → Nat) (ds : Nat → List Int) (w : World) (h : BkAt w a n pt of A C ds) (hn : n ≤ 1000) (hc : n ≤ c) (hd : ∀ i, i < n → (ds i).length ≤ 100000) :
    Calls Try.prog 7 #[.slice a n c] w (WrOut (rwcode n pt of ds) (rwbytes n pt of ds) w) := by
  have HH := Lib.hid h
  have HOK : Hid (∀ i, i < n → Str.Ok (ds i)) := Lib.hid fun i hi => by obtain ⟨b, o, hr⟩ := h; exact (hr i hi).2.2.2.2.2.1.ok
  have HD := Lib.hid hd; clear h hd
  have hwb : rwcode n pt of ds ≠ 0 → rwbytes n pt of ds = [] := fun h => by unfold rwbytes; rw [if_neg h]
  have hwe : rwcode n pt of ds = 0 → rwbytes n pt of ds = renc pt of ds (n - 1) := fun h => by unfold rwbytes; rw [if_pos h]
  by_cases h0 : n = 0
  · subst h0
    have e : rwcode 0 pt of ds = 4 := rfl
    rw [e] at hwb ⊢
    rw [hwb (by decide)]
    go_enter Try.func7, Try.ntmps7
    go_wp2
    refine bodyPost_ret (v := .tuple #[.slice none 0 0, .int .i64 4]) (by simp [results, Try.results7, go_sem]) rfl ?_
    exact WrOut.nil 4 w w (Below.refl _ _)
  obtain ⟨k, rfl⟩ : ∃ k, n = k + 1 := ⟨n - 1, by omega⟩
  have hnz : (((k + 1 : Nat) : Int) == 0) = false := by rw [beq_eq_false_iff_ne]; omega
  have hsub : IntKind.i64.wrap (((k + 1 : Nat) : Int) - 1) = (k : Int) := by rw [IntKind.wrap_i64]; omega
  have hsub2 : ((k + 1 : Nat) : Int) - 1 = (k : Int) := by omega
  have HVF := Lib.hid (vfields_any a (k + 1) c pt of A C ds w HH.out (by omega))
  by_cases h8 : 8 < k + 1
  · have e : rwcode (k + 1) pt of ds = 3 := by unfold rwcode; rw [if_neg (by omega), if_pos h8]
    rw [e] at hwb ⊢
    rw [hwb (by decide)]
    have h8' : (8 : Int) < ((k + 1 : Nat) : Int) := by omega
    go_enter Try.func7, Try.ntmps7
    go_wp2_with fail
    refine bodyPost_ret (v := .tuple #[.slice none 0 0, .int .i64 3]) (by simp [results, Try.results7, go_sem]) rfl ?_
    exact WrOut.nil 3 w w (Below.refl _ _)
  have h8' : ¬ (8 : Int) < ((k + 1 : Nat) : Int) := by omega
  cases hv : okF pt of (k + 1)
  · have e : rwcode (k + 1) pt of ds = 1 := by unfold rwcode; rw [if_neg (by omega), if_neg h8, if_pos (.inl hv)]
    rw [e] at hwb ⊢
    rw [hwb (by decide)]
    rw [hv] at HVF
    go_enter Try.func7, Try.ntmps7
    go_wp2_with (go_at_call 17; refine (HVF.out).mono ?_; rintro e w2 ⟨rfl, hB⟩; have HB := Lib.hid hB; clear hB)
    refine bodyPost_ret (v := .tuple #[.slice none 0 0, .int .i64 1]) (by simp [results, Try.results7, go_sem]) rfl ?_
    exact WrOut.nil 1 w w2 HB.out
  · rw [hv] at HVF
    obtain ⟨b, o, hr⟩ := HH.out
    obtain ⟨rfl, hbl, g0, g1, g2, gb, _⟩ := hr k (by omega)
    have SB : Hid (∀ W, Below w.heap.size w W → (W.cell? ⟨b, o + k * 3, none⟩ = some (.int .i64 (pt k)) ∧ W.cell? ⟨b, o + k * 3 + 1, none⟩ = some (.int .i64 (of k)) ∧ W.cell? ⟨b, o + k * 3 + 2, none⟩ = some (.slice (A k) (ds k).length (C k)) ∧ Below w.heap.size w W)) := Lib.hid fun W hB => ⟨(hB.cell (p := ⟨b, o + k * 3, none⟩) hbl).trans g0, (hB.cell (p := ⟨b, o + k * 3 + 1, none⟩) hbl).trans g1, (hB.cell (p := ⟨b, o + k * 3 + 2, none⟩) hbl).trans g2, hB⟩
    have SD : Hid (∀ W, (W.cell? ⟨b, o + k * 3, none⟩ = some (.int .i64 (pt k)) ∧ W.cell? ⟨b, o + k * 3 + 1, none⟩ = some (.int .i64 (of k)) ∧ W.cell? ⟨b, o + k * 3 + 2, none⟩ = some (.slice (A k) (ds k).length (C k)) ∧ Below w.heap.size w W) → (W.drew.cell? ⟨b, o + k * 3, none⟩ = some (.int .i64 (pt k)) ∧ W.drew.cell? ⟨b, o + k * 3 + 1, none⟩ = some (.int .i64 (of k)) ∧ W.drew.cell? ⟨b, o + k * 3 + 2, none⟩ = some (.slice (A k) (ds k).length (C k)) ∧ Below w.heap.size w W.drew)) := Lib.hid fun W h => SB.out _ h.2.2.2.drew
    have BT : Hid (∀ W W', (W.cell? ⟨b, o + k * 3, none⟩ = some (.int .i64 (pt k)) ∧ W.cell? ⟨b, o + k * 3 + 1, none⟩ = some (.int .i64 (of k)) ∧ W.cell? ⟨b, o + k * 3 + 2, none⟩ = some (.slice (A k) (ds k).length (C k)) ∧ Below w.heap.size w W) → Below W.heap.size W W' → Below w.heap.size w W') := Lib.hid fun W W' h hb => h.2.2.2.trans (hb.mono h.2.2.2.size)
    have HTL : Hid (∀ W, (W.cell? ⟨b, o + k * 3, none⟩ = some (.int .i64 (pt k)) ∧ W.cell? ⟨b, o + k * 3 + 1, none⟩ = some (.int .i64 (of k)) ∧ W.cell? ⟨b, o + k * 3 + 2, none⟩ = some (.slice (A k) (ds k).length (C k)) ∧ Below w.heap.size w W) → Calls Try.prog 18 #[.slice (some ⟨b, o, none⟩) k c, .agg #[.int .i64 (pt k), .int .i64 (of k), .slice (A k) (ds k).length (C k)]] W (ValB (.bool (rlong ds k (ds k).length)) W)) := Lib.hid fun W h => tooLong_any _ k c pt of A C ds _ _ _ _ _ W ((HH.out.less (Nat.le_succ k)).below h.2.2.2) (by omega) (HD.out k (by omega)) (fun i hi => HD.out i (by omega))
    have hi0 : (0 : Int) ≤ (k : Int) := by omega
    have hi1 : (k : Int) ≤ (c : Int) := by omega
    have hi2 : (k : Int) < ((k + 1 : Nat) : Int) := by omega
    have hi3 : (k : Int) < (k : Int) + 1 := by omega
    have hi4 : (k : Int) + 1 - 1 = (k : Int) := by omega
    have GB := Lib.hid gb
    clear hr g0 g1 g2 gb
    by_cases ho : of k = 0
    case neg =>
      have e : rwcode (k + 1) pt of ds = 1 := by unfold rwcode; rw [if_neg (by omega), if_neg h8, if_pos (.inr ho)]
      rw [e] at hwb ⊢
      rw [hwb (by decide)]
      have hob : (of k != 0) = true := by simpa using ho
      go_enter Try.func7, Try.ntmps7
      go_wp2_with fail
      refine (HVF.out).mono ?_
      rintro e w2 ⟨rfl, hB⟩
      obtain ⟨c0, c1, c2, _⟩ := SB.out w2 hB
      have HB := Lib.hid hB; clear hB
      go_wp2_with fail
      refine bodyPost_ret (v := .tuple #[.slice none 0 0, .int .i64 1]) (by simp [results, Try.results7, go_sem]) rfl ?_
      exact WrOut.nil 1 w w2 HB.out
    have hob : (of k != 0) = false := by simpa using ho
    cases hl : rlong ds k (ds k).length
    case true =>
      have e : rwcode (k + 1) pt of ds = 2 := by unfold rwcode; rw [if_neg (by omega), if_neg h8, if_neg (by rw [hv, Nat.add_sub_cancel]; simp [ho]), Nat.add_sub_cancel, if_pos hl]
      rw [e] at hwb ⊢
      rw [hwb (by decide)]
      rw [hl] at HTL
      clear ho
      go_enter Try.func7, Try.ntmps7
      go_wp2_with fail
      refine (HVF.out).mono ?_
      rintro e w2 ⟨rfl, hB⟩
      obtain ⟨c0, c1, c2, _⟩ := id (SB.out w2 hB)
      have hS2 := SB.out w2 hB
      clear hB
      go_upto_region 8 with (fail)
      clear c0 c1 c2
      go_region_held3 (fun W => W.cell? ⟨b, o + k * 3, none⟩ = some (.int .i64 (pt k)) ∧ W.cell? ⟨b, o + k * 3 + 1, none⟩ = some (.int .i64 (of k)) ∧ W.cell? ⟨b, o + k * 3 + 2, none⟩ = some (.slice (A k) (ds k).length (C k)) ∧ Below w.heap.size w W)
        (first | with_reducible assumption | with_reducible exact SD.out _ (by with_reducible assumption) | with_reducible exact SB.out _ (by with_reducible assumption))
        (first
          | (go_at_call 18; refine (HTL.out _ (by with_reducible assumption)).mono ?_; rintro e w3 ⟨rfl, hB⟩; with_reducible have hBn := BT.out _ _ (by with_reducible assumption) hB))
      have HB3 := Lib.hid hBn
      clear hB hBn
      go_wp2_with fail
      refine bodyPost_ret (v := .tuple #[.slice none 0 0, .int .i64 2]) (by simp [results, Try.results7, go_sem]) rfl ?_
      exact WrOut.nil 2 w w3 HB3.out
    case false =>
      have e : rwcode (k + 1) pt of ds = 0 := by unfold rwcode; rw [if_neg (by omega), if_neg h8, if_neg (by rw [hv, Nat.add_sub_cancel]; simp [ho]), Nat.add_sub_cancel, if_neg (by rw [hl]; simp)]
      obtain ⟨k', hk', hvl⟩ := rwcode_vld e HOK.out
      obtain rfl : k = k' := by omega
      have hw := hwe e
      rw [e, hw, Nat.add_sub_cancel]
      rw [hl] at HTL
      have HEN : Hid (∀ W, (W.cell? ⟨b, o + k * 3, none⟩ = some (.int .i64 (pt k)) ∧ W.cell? ⟨b, o + k * 3 + 1, none⟩ = some (.int .i64 (of k)) ∧ W.cell? ⟨b, o + k * 3 + 2, none⟩ = some (.slice (A k) (ds k).length (C k)) ∧ Below w.heap.size w W) → Calls Try.prog 19 #[.slice (some ⟨b, o, none⟩) k c, .agg #[.int .i64 (pt k), .int .i64 (of k), .slice (A k) (ds k).length (C k)]] W (NewB (renc pt of ds k).length (renc pt of ds k) W)) := Lib.hid fun W h => rencode_any _ k c pt of A C ds _ _ W ((HH.out.less (Nat.le_succ k)).below h.2.2.2) (GB.out.below h.2.2.2) hvl
      clear hw hwe hwb e hvl hk' ho
      go_enter Try.func7, Try.ntmps7
      go_wp2_with fail
      refine (HVF.out).mono ?_
      rintro e w2 ⟨rfl, hB⟩
      obtain ⟨c0, c1, c2, _⟩ := id (SB.out w2 hB)
      have hS2 := SB.out w2 hB
      clear hB
      go_upto_region 8 with (fail)
      clear c0 c1 c2
      go_region_held3 (fun W => W.cell? ⟨b, o + k * 3, none⟩ = some (.int .i64 (pt k)) ∧ W.cell? ⟨b, o + k * 3 + 1, none⟩ = some (.int .i64 (of k)) ∧ W.cell? ⟨b, o + k * 3 + 2, none⟩ = some (.slice (A k) (ds k).length (C k)) ∧ Below w.heap.size w W)
        (first | with_reducible assumption | with_reducible exact SD.out _ (by with_reducible assumption) | with_reducible exact SB.out _ (by with_reducible assumption))
        (first
          | (go_at_call 18; refine (HTL.out _ (by with_reducible assumption)).mono ?_; rintro e w3 ⟨rfl, hB⟩; with_reducible have hBn := BT.out _ _ (by with_reducible assumption) hB))
      have hS3 := SB.out w3 hBn
      clear hB hBn hS2
      go_wp2_with fail
      go_region_held3 (fun W => W.cell? ⟨b, o + k * 3, none⟩ = some (.int .i64 (pt k)) ∧ W.cell? ⟨b, o + k * 3 + 1, none⟩ = some (.int .i64 (of k)) ∧ W.cell? ⟨b, o + k * 3 + 2, none⟩ = some (.slice (A k) (ds k).length (C k)) ∧ Below w.heap.size w W)
        (first | with_reducible assumption | with_reducible exact SD.out _ (by with_reducible assumption) | with_reducible exact SB.out _ (by with_reducible assumption))
        (first
          | (go_at_call 19; refine (HEN.out _ (by with_reducible assumption)).mono ?_; rintro e w4 ⟨a4, c4, rfl, hO, hB⟩; with_reducible have hBn := BT.out _ _ (by with_reducible assumption) hB))
      have HF : Hid (WrOut 0 (renc pt of ds k) w (.returned (.tuple #[.slice a4 (renc pt of ds k).length c4, .int .i64 0])) w4) := Lib.hid ⟨a4, _, c4, rfl, hO.mono hS3.2.2.2.size, hBn⟩
      clear hB hBn hO hS3
      go_wp2_with fail
      refine bodyPost_ret (v := .tuple #[.slice a4 (renc pt of ds k).length c4, .int .i64 0]) (by simp [results, Try.results7, go_sem]) rfl ?_
      exact HF.out
end Go.Proofs.Ytfmabpddacfbcaa

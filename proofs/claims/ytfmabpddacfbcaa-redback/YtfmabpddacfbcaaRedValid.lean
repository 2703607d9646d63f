
/-
  red.validPT, validFields, tooLong.
-/
import Derived.Test.YtfmabpddacfbcaaRedBk
import Derived.Deep.Cut
import Derived.Deep.CutBlock
namespace Go.Proofs.Ytfmabpddacfbcaa
open Go.RowKit Go.Shelf
set_option linter.unusedVariables false
def okPT (p : Int) : Bool := decide (0 ≤ p ∧ p ≤ 127)
theorem vpt_any (p : Int) (w : World) : Calls Try.prog 24 #[.int .i64 p] w (SameV (.bool (okPT p)) w) := by
  unfold okPT
  by_cases h1 : 0 ≤ p
  · by_cases h2 : p ≤ 127
    · rw [decide_eq_true ⟨h1, h2⟩]
      go_enter Try.func24, Try.ntmps24
      go_wp2
      go_ret
      exact ⟨rfl, rfl⟩
    · rw [decide_eq_false (fun h => h2 h.2)]
      go_enter Try.func24, Try.ntmps24
      go_wp2
      go_ret
      exact ⟨rfl, rfl⟩
  · rw [decide_eq_false (fun h => h1 h.1)]
    go_enter Try.func24, Try.ntmps24
    go_wp2
    go_ret
    exact ⟨rfl, rfl⟩
def okB (p o : Int) : Bool := okPT p && (decide (0 ≤ o) && decide (o ≤ 16383))
/-- The first k blocks have valid fields. -/
def okF (pt of : Nat → Int) : Nat → Bool
  | 0 => true
  | k + 1 => okF pt of k && okB (pt k) (of k)
theorem okF_all {pt of : Nat → Int} : ∀ n, okF pt of n = true ↔ ∀ i, i < n → okB (pt i) (of i) = true
  | 0 => ⟨fun _ i h => by omega, fun _ => rfl⟩
  | n + 1 => by
    simp only [okF, Bool.and_eq_true, okF_all n]
    constructor
    · rintro ⟨h1, h2⟩ i hi
      by_cases e : i = n
      · subst e; exact h2
      · exact h1 i (by omega)
    · intro h; exact ⟨fun i hi => h i (by omega), h n (by omega)⟩
theorem okF_bad {pt of : Nat → Int} {n k : Nat} (hk : k < n) (h : okB (pt k) (of k) = false) : okF pt of n = false := by
  cases e : okF pt of n
  · rfl
  · rw [(okF_all n).1 e k hk] at h; cases h
set_option maxHeartbeats 1000000 in
set_option maxRecDepth 100000 in
theorem vfields_any (a : Option Addr) (n c : Nat) (pt of : Nat → Int) (A : Nat → Option Addr) (C : Nat → Nat) (ds : Nat → List Int) (w : World) (h : BkAt w a n pt of A C ds) (hn : n ≤ 9223372036854775807) :
    Calls Try.prog 17 #[.slice a n c] w (ValB (.bool (okF pt of n)) w) := by
  have HH := Lib.hid h; clear h
  go_enter Try.func17, Try.ntmps17
  go_upto_region 2 with (fail)
  go_loopw [7] (fun iv wr => ∃ i : Nat, i ≤ n ∧ iv = .int .i64 i ∧ Hid (okF pt of i = true) ∧ Hid (Below w.heap.size w wr)) (fun iv _ => n - (intOf iv).toNat)
  case atStart => exact ⟨0, Nat.zero_le _, rfl, Lib.hid rfl, Lib.hid (Below.refl _ _)⟩
  case round =>
    obtain ⟨i, hi, rfl, HO, HB⟩ := hrel
    by_cases hlt : i < n
    · have hiz : (i : Int) < (n : Int) := by omega
      obtain ⟨b, o, hr⟩ := HH.out
      obtain ⟨rfl, hbl, g0, g1, g2, _⟩ := hr i hlt
      have g0 : wr.cell? ⟨b, o + i * 3, none⟩ = some (.int .i64 (pt i)) := (HB.out.cell (p := ⟨b, o + i * 3, none⟩) hbl).trans g0
      have g1 : wr.cell? ⟨b, o + i * 3 + 1, none⟩ = some (.int .i64 (of i)) := (HB.out.cell (p := ⟨b, o + i * 3 + 1, none⟩) hbl).trans g1
      have g2 : wr.cell? ⟨b, o + i * 3 + 2, none⟩ = some (.slice (A i) (ds i).length (C i)) := (HB.out.cell (p := ⟨b, o + i * 3 + 2, none⟩) hbl).trans g2
      have HPT := Lib.hid (fun W => vpt_any (pt i) W)
      have HN : Hid (∀ o', Below w.heap.size w (wr.alloc o')) := Lib.hid fun o' => HB.out.alloc HB.out.size _
      have HS : okB (pt i) (of i) = true → okF pt of (i + 1) = true := fun h => by simp only [okF, Bool.and_eq_true]; exact ⟨HO.out, h⟩
      have HF : okB (pt i) (of i) = false → okF pt of n = false := fun h => okF_bad hlt h
      unfold okB at HS HF
      have HS := Lib.hid HS; have HF := Lib.hid HF
      clear hr HB HO
      generalize pt i = p at *
      generalize of i = q at *
      generalize (ds i).length = z at *
      cases hp : okPT p
      · rw [hp] at HF HPT
        have hF := HF.out (by simp)
        rw [hF]
        clear HF HS hF hp
        go_wp2_with (go_at_call 24; refine (HPT.out _).mono ?_; rintro e w2 ⟨rfl, rfl⟩)
        go_ret
        exact ⟨rfl, HN.out _⟩
      · rw [hp] at HF HS HPT
        by_cases h1 : q < 0
        · have hF := HF.out (by simp; omega)
          rw [hF]
          clear HF HS hF hp
          go_wp2_with (go_at_call 24; refine (HPT.out _).mono ?_; rintro e w2 ⟨rfl, rfl⟩)
          go_ret
          exact ⟨rfl, HN.out _⟩
        · by_cases h2 : 16383 < q
          · have hF := HF.out (by simp; omega)
            rw [hF]
            clear HF HS hF hp
            go_wp2_with (go_at_call 24; refine (HPT.out _).mono ?_; rintro e w2 ⟨rfl, rfl⟩)
            go_ret
            exact ⟨rfl, HN.out _⟩
          · have hS := Lib.hid (HS.out (by simp; omega))
            clear HF HS hp
            go_wp2_with (go_at_call 24; refine (HPT.out _).mono ?_; rintro e w2 ⟨rfl, rfl⟩)
            go_roundw
            case rel => exact ⟨i + 1, by omega, by go_num, hS, Lib.hid (HN.out _)⟩
            case measure => simp [intOf]; omega
    · obtain rfl : i = n := by omega
      go_wp2_with fail
      go_ret
      exact ⟨by rw [HO.out]; rfl, HB.out⟩
def anyL (ds : Nat → List Int) : Nat → Bool
  | 0 => false
  | k + 1 => anyL ds k || decide (1023 < (ds k).length)
theorem anyL_none {ds : Nat → List Int} : ∀ n, anyL ds n = false ↔ ∀ i, i < n → (ds i).length ≤ 1023
  | 0 => ⟨fun _ i h => by omega, fun _ => rfl⟩
  | n + 1 => by
    simp only [anyL, Bool.or_eq_false_iff, anyL_none n, decide_eq_false_iff_not]
    constructor
    · rintro ⟨h1, h2⟩ i hi
      by_cases e : i = n
      · subst e; omega
      · exact h1 i (by omega)
    · intro h; exact ⟨fun i hi => h i (by omega), by have := h n (by omega); omega⟩
def rlong (ds : Nat → List Int) (k m : Nat) : Bool := anyL ds k || decide (1500 < 4 * k + 1 + psum (fun i => (ds i).length) k + m)
theorem rlong_any {ds : Nat → List Int} {k m i : Nat} (hi : i < k) (h : 1023 < (ds i).length) : rlong ds k m = true := by
  unfold rlong
  cases e : anyL ds k
  · have := (anyL_none k).1 e i hi; omega
  · rfl
set_option maxHeartbeats 1000000 in
set_option maxRecDepth 100000 in
theorem tooLong_any (a : Option Addr) (n c : Nat) (pt of : Nat → Int) (A : Nat → Option Addr) (C : Nat → Nat) (ds : Nat → List Int) (lp lo : Int) (la : Option Addr) (m lc : Nat) (w : World) (h : BkAt w a n pt of A C ds) (hn : n ≤ 1000) (hm : m ≤ 100000) (hd : ∀ i, i < n → (ds i).length ≤ 100000) :
    Calls Try.prog 18 #[.slice a n c, .agg #[.int .i64 lp, .int .i64 lo, .slice la m lc]] w (ValB (.bool (rlong ds n m)) w) := by
  have HH := Lib.hid h; have HD := Lib.hid hd; clear h hd
  go_enter Try.func18, Try.ntmps18
  go_upto_region 3 with (fail)
  have hB0 : ∀ o, Below w.heap.size w (w.alloc o) := fun o => (Below.refl _ w).alloc (Nat.le_refl _) _
  go_loopw [5, 14] (fun sv iv wr => ∃ i : Nat, i ≤ n ∧ iv = .int .i64 i ∧ sv = .int .i64 ((1 + m + 4 * i + psum (fun i => (ds i).length) i : Nat) : Int) ∧ Hid (anyL ds i = false) ∧ Hid (Below w.heap.size w wr)) (fun _ iv _ => n - (intOf iv).toNat)
  case atStart => exact ⟨0, Nat.zero_le _, rfl, by simp [psum], Lib.hid rfl, Lib.hid (hB0 _)⟩
  case round =>
    obtain ⟨i, hi, rfl, rfl, HO, HB⟩ := hrel
    clear hB0
    have hps : ∀ j, j ≤ n → psum (fun i => (ds i).length) j ≤ j * 100000 := fun j hj => by
      induction j with
      | zero => exact Nat.le_refl _
      | succ j ih => have := ih (by omega); have := HD.out j (by omega); simp only [psum]; omega
    have hpi := hps i hi
    clear hps
    by_cases hlt : i < n
    · have hiz : (i : Int) < (n : Int) := by omega
      obtain ⟨b, o, hr⟩ := HH.out
      obtain ⟨rfl, hbl, g0, g1, g2, _⟩ := hr i hlt
      have g0 : wr.cell? ⟨b, o + i * 3, none⟩ = some (.int .i64 (pt i)) := (HB.out.cell (p := ⟨b, o + i * 3, none⟩) hbl).trans g0
      have g1 : wr.cell? ⟨b, o + i * 3 + 1, none⟩ = some (.int .i64 (of i)) := (HB.out.cell (p := ⟨b, o + i * 3 + 1, none⟩) hbl).trans g1
      have g2 : wr.cell? ⟨b, o + i * 3 + 2, none⟩ = some (.slice (A i) (ds i).length (C i)) := (HB.out.cell (p := ⟨b, o + i * 3 + 2, none⟩) hbl).trans g2
      have HN : Hid (∀ o', Below w.heap.size w (wr.alloc o')) := Lib.hid fun o' => HB.out.alloc HB.out.size _
      have HPS : Hid (psum (fun i => (ds i).length) (i + 1) = psum (fun i => (ds i).length) i + (ds i).length) := Lib.hid rfl
      have HL := Lib.hid (fun (h : 1023 < (ds i).length) => rlong_any (k := n) (m := m) hlt h)
      have HA : Hid (¬ 1023 < (ds i).length → anyL ds (i + 1) = false) := Lib.hid fun h => by simp only [anyL, HO.out, Bool.false_or, decide_eq_false_iff_not]; exact h
      have hd := HD.out i hlt
      clear hr HB HO
      generalize psum (fun i => (ds i).length) i = P0 at *
      generalize (ds i).length = z at *
      by_cases hz : 1023 < z
      · have hz' : (1023 : Int) < (z : Int) := by omega
        go_wp2_with fail
        go_ret
        exact ⟨by rw [HL.out hz]; rfl, HN.out _⟩
      · have hz' : ¬ (1023 : Int) < (z : Int) := by omega
        have hw1 : IntKind.i64.wrap (4 + (z : Int)) = 4 + (z : Int) := by rw [IntKind.wrap_i64]; omega
        have hw2 : IntKind.i64.wrap (((1 + m + 4 * i + P0 : Nat) : Int) + (4 + (z : Int))) = ((1 + m + 4 * i + P0 : Nat) : Int) + (4 + (z : Int)) := by rw [IntKind.wrap_i64]; omega
        go_wp2_with fail
        go_roundw
        case rel => exact ⟨i + 1, by omega, by go_num, by have := HPS.out; first | go_num | (congr 1; omega), Lib.hid (HA.out hz), Lib.hid (HN.out _)⟩
        case measure => simp [intOf]; omega
    · obtain rfl : i = n := by omega
      have hR : rlong ds i m = decide (1500 < 1 + m + 4 * i + psum (fun i => (ds i).length) i) := by
        unfold rlong; rw [HO.out, Bool.false_or]
        congr 1
        apply propext
        omega
      have HR := Lib.hid hR; clear hR
      generalize psum (fun i => (ds i).length) i = P0 at *
      by_cases h5 : 1500 < 1 + m + 4 * i + P0
      · have h5' : (1500 : Int) < ((1 + m + 4 * i + P0 : Nat) : Int) := by omega
        go_wp2_with fail
        go_ret
        exact ⟨by rw [HR.out, decide_eq_true h5]; show Ending.returned (Value.bool (decide _)) = _; rw [decide_eq_true (by omega)], HB.out⟩
      · have h5' : ¬ (1500 : Int) < ((1 + m + 4 * i + P0 : Nat) : Int) := by omega
        go_wp2_with fail
        go_ret
        exact ⟨by rw [HR.out, decide_eq_false h5]; show Ending.returned (Value.bool (decide _)) = _; rw [decide_eq_false (by omega)], HB.out⟩
end Go.Proofs.Ytfmabpddacfbcaa

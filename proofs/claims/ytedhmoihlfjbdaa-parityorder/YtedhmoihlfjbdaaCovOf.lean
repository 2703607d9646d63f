/-
  cover.From.
-/
import Derived.Test.YtedhmoihlfjbdaaMaskBits
import Derived.Test.YtedhmoihlfjbdaaSpan
namespace Go.Proofs.Ytedhmoihlfjbdaa
open Go.RowKit
set_option linter.unusedVariables false
/-- What a list of uint16 looks like in memory, seen from a world that it lies in. -/
def U16s (a : Option Addr) (len : Nat) (zs : List Int) (w : World) : Prop :=
  ∀ j, j < len → ∃ b off, a = some ⟨b, off, none⟩ ∧ b < w.heap.size ∧ w.cell? ⟨b, off + j, none⟩ = some (.int .u16 (zs.getD j 0))
theorem U16s.below {a : Option Addr} {len : Nat} {zs : List Int} {w w' : World} (h : U16s a len zs w) (hb : Below w.heap.size w w') : U16s a len zs w' := fun j hj => by
  obtain ⟨b, off, rfl, hbl, hc⟩ := h j hj
  exact ⟨b, off, rfl, Nat.lt_of_lt_of_le hbl hb.size, (hb.cell (p := ⟨b, off + j, none⟩) hbl).trans hc⟩
/-- The mask of how far the first k numbers are ahead of a base. -/
def Cv.m (b : Int) (zs : List Int) : Nat → Nat | 0 => 0 | k + 1 => Cv.m b zs k ||| Mk.one (Ser.ahead (zs.getD k 0) b)
theorem Cv.m_ok (b : Int) (zs : List Int) (k : Nat) : Mk.Ok (Cv.m b zs k) := by
  induction k with
  | zero => exact (by decide : 0 < 2 ^ 128)
  | succ k ih => exact Mk.or_ok ih (Mk.one_ok _)
/-- The numbers from k on are all within the span. -/
def Cv.In (b : Int) (zs : List Int) (k : Nat) : Prop := 0 ≤ Ser.ahead (zs.getD k 0) b ∧ Ser.ahead (zs.getD k 0) b < 109
/-- The first k numbers are within the span. -/
def Cv.all (b : Int) (zs : List Int) : Nat → Bool | 0 => true | k + 1 => Cv.all b zs k && (decide (0 ≤ Ser.ahead (zs.getD k 0) b) && decide (Ser.ahead (zs.getD k 0) b < 109))
theorem Cv.all_mono {b : Int} {zs : List Int} {k n : Nat} (h : k ≤ n) (hn : Cv.all b zs n = true) : Cv.all b zs k = true := by
  induction n with
  | zero => obtain rfl : k = 0 := by omega
            exact hn
  | succ n ih =>
    by_cases hk : k = n + 1
    · subst hk; exact hn
    · simp only [Cv.all, Bool.and_eq_true] at hn; exact ih (by omega) hn.1
theorem Cv.all_no {b : Int} {zs : List Int} {k n : Nat} (h : k < n) (hn : ¬ Cv.In b zs k) : Cv.all b zs n = false := by
  cases he : Cv.all b zs n with
  | false => rfl
  | true =>
    have := Cv.all_mono (k := k + 1) (by omega) he
    simp only [Cv.all, Bool.and_eq_true, decide_eq_true_eq] at this
    exact absurd this.2 hn
/-- What From answers: its error. -/
def Cv.code (b : Int) (zs : List Int) (n : Nat) : Int := if n = 0 then 4 else if Cv.all b zs n = false then 31 else if Mk.cnt (Cv.m b zs n) < n then 5 else 0
/-- And its mask. -/
def Cv.ans (b : Int) (zs : List Int) (n : Nat) : Nat := if Cv.code b zs n = 0 then Cv.m b zs n else 0
def CvPost (b : Int) (zs : List Int) (n : Nat) (w : World) (e : Ending) (w' : World) : Prop :=
  e = .returned (.tuple #[.agg #[.int .u64 (Mk.H (Cv.ans b zs n)), .int .u64 (Mk.L (Cv.ans b zs n))], .int .i64 (Cv.code b zs n)]) ∧ Below w.heap.size w w'
set_option maxHeartbeats 400000 in
theorem cfrom_any (bs : Int) (a : Option Addr) (len cap : Nat) (zs : List Int) (w : World) (hz : U16s a len zs w) (hlen : len < 4611686018427387904) :
    Calls Try.prog 90 #[.int .u16 bs, .slice a len cap] w (CvPost bs zs len w) := by
  have HZ := Lib.hid hz; clear hz
  go_enter Try.func90, Try.ntmps90
  by_cases h0 : len = 0
  · subst h0
    go_wp2
    refine bodyPost_ret (v := .tuple #[.agg #[.int .u64 (Mk.H (Cv.ans bs zs 0)), .int .u64 (Mk.L (Cv.ans bs zs 0))], .int .i64 (Cv.code bs zs 0)]) (by simp [results, Try.results90, go_sem, Cv.ans, Cv.code, Mk.H, Mk.L]) rfl ⟨rfl, ?_⟩
    exact (Below.refl _ w).alloc (Nat.le_refl _) _
  · have hne : ((len : Int) == 0) = false := beq_eq_false_iff_ne.2 (by omega)
    go_wp2
    have hA : MAt w.heap.size 0 ((w.alloc (Obj.cells #[Value.int IntKind.u64 0, Value.int IntKind.u64 0] 107)).alloc (Obj.cells #[Value.int IntKind.u64 0, Value.int IntKind.u64 0] 107)) := (MAt.zero w _).alloc (by simp) _
    have hB : MAt (w.heap.size + 1) 0 ((w.alloc (Obj.cells #[Value.int IntKind.u64 0, Value.int IntKind.u64 0] 107)).alloc (Obj.cells #[Value.int IntKind.u64 0, Value.int IntKind.u64 0] 107)) := by
      have := MAt.zero (w.alloc (Obj.cells #[Value.int IntKind.u64 0, Value.int IntKind.u64 0] 107)) 107
      simpa using this
    have hW : Below w.heap.size w ((w.alloc (Obj.cells #[Value.int IntKind.u64 0, Value.int IntKind.u64 0] 107)).alloc (Obj.cells #[Value.int IntKind.u64 0, Value.int IntKind.u64 0] 107)) := ((Below.refl _ _).alloc (Nat.le_refl _) _).alloc (by simp) _
    have hS : w.heap.size + 2 ≤ ((w.alloc (Obj.cells #[Value.int IntKind.u64 0, Value.int IntKind.u64 0] 107)).alloc (Obj.cells #[Value.int IntKind.u64 0, Value.int IntKind.u64 0] 107)).heap.size := by simp
    generalize ((w.alloc (Obj.cells #[Value.int IntKind.u64 0, Value.int IntKind.u64 0] 107)).alloc (Obj.cells #[Value.int IntKind.u64 0, Value.int IntKind.u64 0] 107)) = w0 at hA hB hW hS ⊢
    have HA := Lib.hid hA; have HB := Lib.hid hB; have HW := Lib.hid hW; clear hA hB hW
    go_loopw [16] (fun i wr => ∃ k : Nat, k ≤ len ∧ i = .int .i64 k ∧ Hid (Cv.all bs zs k = true) ∧ Hid (MAt w.heap.size 0 wr) ∧ Hid (MAt (w.heap.size + 1) (Cv.m bs zs k) wr) ∧ Hid (Below w.heap.size w wr) ∧ w.heap.size + 2 ≤ wr.heap.size) (fun i _ => len - (intOf i).toNat)
    case atStart => exact ⟨0, Nat.zero_le _, rfl, Lib.hid rfl, HA, HB, HW, hS⟩
    case round =>
      clear HA HB HW hS
      obtain ⟨k, hk, rfl, HAL, HA, HB, HW, hS⟩ := hrel
      by_cases hlt : k < len
      · obtain ⟨b, off, rfl, hbl, hck⟩ := HZ.out k hlt
        have ck : wr.cell? ⟨b, off + k, none⟩ = some (.int .u16 (zs.getD k 0)) := (HW.out.cell (p := ⟨b, off + k, none⟩) hbl).trans hck
        clear hck
        have hah := fun w => ahead_any (zs.getD k 0) bs w
        have hbd := Ser.ahead_bd (zs.getD k 0) bs
        generalize hd : Ser.ahead (zs.getD k 0) bs = d at *
        have HD := Lib.hid hd; clear hd
        have HAH := Lib.hid hah; clear hah
        by_cases hin : 0 ≤ d ∧ d < 109
        · have hw := fun w => mWith_any (Cv.m bs zs k) (Cv.m_ok _ _ _) d (by omega) (by omega) w
          rw [show Cv.m bs zs k ||| Mk.one d = Cv.m bs zs (k + 1) by rw [← HD.out]; rfl] at hw
          generalize hZ : Cv.m bs zs (k + 1) = Z at *
          have HZZ := Lib.hid hZ; clear hZ
          have hall : Cv.all bs zs (k + 1) = true := by
            simp only [Cv.all, Bool.and_eq_true, decide_eq_true_eq]; exact ⟨HAL.out, by rw [HD.out]; exact hin.1, by rw [HD.out]; exact hin.2⟩
          have HALL := Lib.hid hall; clear hall
          generalize Cv.m bs zs k = X at *
          generalize zs.getD k 0 = z at *
          have HWI := Lib.hid hw; clear hw
          have hl0 : ¬ d < 0 := by omega
          have hl1 : ¬ 109 ≤ d := by omega
          have c0 := HB.out.c0; have c1 := HB.out.c1; have f0 := HB.out.f0; have f1 := HB.out.f1
          go_wp2_with (first
            | (go_at_call 128; refine (HAH.out _).mono ?_; rintro e w' ⟨rfl, rfl⟩)
            | (go_at_call 130; refine (HWI.out _).mono ?_; rintro e w1 ⟨rfl, hB⟩; obtain ⟨hc1, hf1, hN1⟩ := bcellN (N := w.heap.size + 2) hB (by first | assumption | (simp; done) | (simp; omega)); have HB1 := Lib.hid hB; clear hB))
          have HM1 : MAt (w.heap.size + 1) X w1 := HB.out.below HB1.out (by omega)
          have HA1 : MAt w.heap.size 0 w1 := HA.out.below HB1.out (by omega)
          go_roundw
          case rel => exact ⟨k + 1, by omega, by go_num, HALL, Lib.hid ((HA1.other (by omega) _ _).other (by omega) _ _), Lib.hid (by rw [HZZ.out]; exact HM1.set Z), Lib.hid (((HW.out.trans (HB1.out.mono (by omega))).setCell (by simp) _).setCell (by simp) _), by simp; omega⟩
          case measure => simp [intOf]; omega
        · have hno : ¬ Cv.In bs zs k := by unfold Cv.In; rw [HD.out]; exact hin
          have e31 : Cv.code bs zs len = 31 := by unfold Cv.code; rw [if_neg h0, if_pos (Cv.all_no hlt hno)]
          have ea : Cv.ans bs zs len = 0 := by unfold Cv.ans; rw [e31]; rfl
          generalize zs.getD k 0 = z at *
          have c0 := HA.out.c0; have c1 := HA.out.c1; have f0 := HA.out.f0; have f1 := HA.out.f1
          by_cases hl : d < 0
          · go_wp2_with (go_at_call 128; refine (HAH.out _).mono ?_; rintro e w' ⟨rfl, rfl⟩)
            refine bodyPost_ret (v := .tuple #[.agg #[.int .u64 (Mk.H (Cv.ans bs zs len)), .int .u64 (Mk.L (Cv.ans bs zs len))], .int .i64 (Cv.code bs zs len)]) (by simp [results, Try.results90, go_sem, ea, e31, Mk.H, Mk.L, c0, c1]) rfl ⟨rfl, ?_⟩
            exact (HW.out.setCell (by simp) _).setCell (by simp) _
          · have hl' : 109 ≤ d := by omega
            go_wp2_with (go_at_call 128; refine (HAH.out _).mono ?_; rintro e w' ⟨rfl, rfl⟩)
            refine bodyPost_ret (v := .tuple #[.agg #[.int .u64 (Mk.H (Cv.ans bs zs len)), .int .u64 (Mk.L (Cv.ans bs zs len))], .int .i64 (Cv.code bs zs len)]) (by simp [results, Try.results90, go_sem, ea, e31, Mk.H, Mk.L, c0, c1]) rfl ⟨rfl, ?_⟩
            exact (HW.out.setCell (by simp) _).setCell (by simp) _
      · obtain rfl : k = len := by omega
        have c0 := HB.out.c0; have c1 := HB.out.c1; have f0 := HA.out.f0; have f1 := HA.out.f1; have d0 := HA.out.c0; have d1 := HA.out.c1
        have hco : Cv.code bs zs k = if Mk.cnt (Cv.m bs zs k) < k then 5 else 0 := by unfold Cv.code; rw [if_neg h0, if_neg (by rw [HAL.out]; simp)]
        have hct := fun w => mCount_any (Cv.m bs zs k) (Cv.m_ok _ _ _) w
        have hcb : Mk.cnt (Cv.m bs zs k) ≤ 128 := by
          have := popN_le 64 (Mk.H (Cv.m bs zs k)); have := popN_le 64 (Mk.L (Cv.m bs zs k)); unfold Mk.cnt; omega
        have han : Cv.ans bs zs k = if Cv.code bs zs k = 0 then Cv.m bs zs k else 0 := rfl
        generalize hZe : Cv.ans bs zs k = Z at *
        generalize hce : Cv.code bs zs k = cc at *
        have HZE := Lib.hid hZe; have HCE := Lib.hid hce; clear hZe hce
        generalize Cv.m bs zs k = X at *
        generalize Mk.cnt X = n at *
        have HCT := Lib.hid hct; clear hct
        by_cases hlt2 : n < k
        · rw [if_pos hlt2] at hco; subst hco; rw [if_neg (by decide)] at han; subst han
          have hlt3 : (n : Int) < k := by omega
          go_wp2_with (go_at_call 131; refine (HCT.out _).mono ?_; rintro e w1 ⟨rfl, hB⟩; obtain ⟨hc1, hf1, hN1⟩ := bcellN (N := w.heap.size + 2) hB (by first | assumption | (simp; done) | (simp; omega)); have HB1 := Lib.hid hB; clear hB)
          refine bodyPost_ret (v := .tuple #[.agg #[.int .u64 (Mk.H 0), .int .u64 (Mk.L 0)], .int .i64 5]) (by simp [results, Try.results90, go_sem, Mk.H, Mk.L, d0, d1, hc1]) rfl ⟨by rw [HZE.out, HCE.out], ?_⟩
          exact ((HW.out.trans (HB1.out.mono (by omega))).setCell (by simp) _).setCell (by simp) _
        · rw [if_neg hlt2] at hco; subst hco; rw [if_pos rfl] at han; subst han
          have hlt3 : (k : Int) ≤ n := by omega
          go_wp2_with (go_at_call 131; refine (HCT.out _).mono ?_; rintro e w1 ⟨rfl, hB⟩; obtain ⟨hc1, hf1, hN1⟩ := bcellN (N := w.heap.size + 2) hB (by first | assumption | (simp; done) | (simp; omega)); have HB1 := Lib.hid hB; clear hB)
          refine bodyPost_ret (v := .tuple #[.agg #[.int .u64 (Mk.H Z), .int .u64 (Mk.L Z)], .int .i64 0]) (by simp [results, Try.results90, go_sem, d0, d1, hc1]) rfl ⟨by rw [HZE.out, HCE.out], ?_⟩
          exact ((HW.out.trans (HB1.out.mono (by omega))).setCell (by simp) _).setCell (by simp) _
end Go.Proofs.Ytedhmoihlfjbdaa
namespace Go.Proofs.Ytedhmoihlfjbdaa
open Go.RowKit
set_option linter.unusedVariables false
/-- The first n of a list as an array. -/
def Cv.arr (zs : List Int) (n : Nat) : Array Int := Array.ofFn (n := n) fun i => zs.getD i 0
theorem Cv.arr_size (zs : List Int) (n : Nat) : (Cv.arr zs n).size = n := by unfold Cv.arr; simp
theorem Cv.arr_get (zs : List Int) {n k : Nat} (h : k < n) : (Cv.arr zs n)[k]! = zs.getD k 0 := by
  unfold Cv.arr; rw [getElem!_pos _ k (by simp; exact h)]; simp
/-- The least one of numbers. -/
def Cv.base (zs : List Int) (n : Nat) : Int := if n = 0 then 0 else Ser.add (zs.getD 0 0) (Ser.lo (Cv.arr zs n) n)
/-- How far they span. -/
def Cv.wide (zs : List Int) (n : Nat) : Int := if n = 0 then 0 else Ser.hi (Cv.arr zs n) n - Ser.lo (Cv.arr zs n) n
theorem cspan_any (a : Option Addr) (len cap : Nat) (zs : List Int) (w : World) (hz : U16s a len zs w) (hlen : len < 4611686018427387904) :
    Calls Try.prog 89 #[.slice a len cap] w fun e w' => e = .returned (.tuple #[.int .u16 (Cv.base zs len), .int .i64 (Cv.wide zs len)]) ∧ w = w' := by
  by_cases h0 : len = 0
  · subst h0; exact span_none a cap w
  · obtain ⟨b, off, rfl, _, _⟩ := hz 0 (by omega)
    have hs := Cv.arr_size zs len
    have h := span_any b off cap (Cv.arr zs len) w (Lib.hid fun j hj => by
      rw [hs] at hj
      obtain ⟨b', off', he, _, hc⟩ := hz j hj
      cases he
      rw [Cv.arr_get zs hj]; exact hc) (by omega) (by omega)
    rw [hs, Cv.arr_get zs (by omega : 0 < len)] at h
    unfold Cv.base Cv.wide; rw [if_neg h0, if_neg h0]; exact h
/-- What Of answers. -/
def Cv.ofBase (zs : List Int) (n : Nat) : Int := if Cv.code (Cv.base zs n) zs n = 0 then Cv.base zs n else 0
def CvOfPost (zs : List Int) (n : Nat) (w : World) (e : Ending) (w' : World) : Prop :=
  e = .returned (.tuple #[.int .u16 (Cv.ofBase zs n), .agg #[.int .u64 (Mk.H (Cv.ans (Cv.base zs n) zs n)), .int .u64 (Mk.L (Cv.ans (Cv.base zs n) zs n))], .int .i64 (Cv.code (Cv.base zs n) zs n)]) ∧ Below w.heap.size w w'
set_option maxHeartbeats 400000 in
theorem cof_any (a : Option Addr) (len cap : Nat) (zs : List Int) (w : World) (hz : U16s a len zs w) (hlen : len < 4611686018427387904) :
    Calls Try.prog 56 #[.slice a len cap] w (CvOfPost zs len w) := by
  have hsp := fun w hz => cspan_any a len cap zs w hz hlen
  have hfr := fun w hz => cfrom_any (Cv.base zs len) a len cap zs w hz hlen
  have hba : Cv.ofBase zs len = if Cv.code (Cv.base zs len) zs len = 0 then Cv.base zs len else 0 := rfl
  have han : Cv.ans (Cv.base zs len) zs len = if Cv.code (Cv.base zs len) zs len = 0 then Cv.m (Cv.base zs len) zs len else 0 := rfl
  unfold CvOfPost
  unfold CvPost at hfr
  generalize Cv.ofBase zs len = OB at *
  generalize Cv.base zs len = B at *
  generalize Cv.wide zs len = V at *
  generalize Cv.ans B zs len = Z at *
  generalize Cv.m B zs len = M at *
  generalize Cv.code B zs len = C at *
  have HZ := Lib.hid hz; clear hz
  have HSP := Lib.hid hsp; clear hsp
  have HFR := Lib.hid hfr; clear hfr
  by_cases h0 : C = 0
  · rw [if_pos h0] at hba han
    subst h0 hba han
    go_enter Try.func56, Try.ntmps56
    go_wp2_with (first
      | (go_at_call 89; refine (HSP.out _ (HZ.out.below ((Below.refl _ _).alloc (Nat.le_refl _) _))).mono ?_; rintro e w' ⟨rfl, rfl⟩)
      | (go_at_call 90; refine (HFR.out _ (HZ.out.below ((Below.refl _ _).alloc (Nat.le_refl _) _))).mono ?_; rintro e w1 ⟨rfl, hB⟩; obtain ⟨hc1, hf1, hN1⟩ := bcellN (N := w.heap.size + 1) hB (by first | assumption | (simp; done) | (simp; omega)); have HB1 := Lib.hid hB; clear hB; have hf0 : w1.frozen? ⟨w.heap.size, 0, none⟩ = false := (by rw [hf1 _ _ (by omega)]; simp [go_sem]); have hf0' : w1.frozen? ⟨w.heap.size, 1, none⟩ = false := (by rw [hf1 _ _ (by omega)]; simp [go_sem]); have hc0 : w1.cell? ⟨w.heap.size, 0, none⟩ = some (.int .u64 0) := (by rw [hc1 _ _ (by omega)]; simp [go_sem]); have hc0' : w1.cell? ⟨w.heap.size, 1, none⟩ = some (.int .u64 0) := (by rw [hc1 _ _ (by omega)]; simp [go_sem]); have hlt : w.heap.size < w1.heap.size := (by omega); have hne : w.heap.size ≠ w1.heap.size := (by omega); clear hc1 hf1; have hA1 : MAt w.heap.size 0 w1 := ⟨hc0, hc0', hf0, hf0'⟩))
    go_region_held3 (fun w' => w'.cell? ⟨w1.heap.size, 0, none⟩ = some (.int .u64 (Mk.H Z)) ∧ w'.cell? ⟨w1.heap.size, 1, none⟩ = some (.int .u64 (Mk.L Z))) (first | (simp [go_sem, *]; done) | (simp [go_sem]; done)) (fail)
    go_wp2
    have hR := (hA1.set Z).alloc (by simp; omega) (Obj.cells #[Value.int IntKind.u64 (Mk.H Z), Value.int IntKind.u64 (Mk.L Z)] 107)
    refine bodyPost_ret (v := .tuple #[.int .u16 OB, .agg #[.int .u64 (Mk.H Z), .int .u64 (Mk.L Z)], .int .i64 0]) (by simp [results, Try.results56, go_sem, hR.c0, hR.c1]) rfl ⟨rfl, ?_⟩
    exact (((((((Below.refl _ w).alloc (Nat.le_refl _) _).trans (HB1.out.mono (by simp))).setCell (by simp) _).setCell (by simp) _).alloc (by simp; omega) _).drew)
  · rw [if_neg h0] at hba han
    have h0' : ¬ C = 0 := h0
    subst hba han
    go_enter Try.func56, Try.ntmps56
    go_wp2_with (first
      | (go_at_call 89; refine (HSP.out _ (HZ.out.below ((Below.refl _ _).alloc (Nat.le_refl _) _))).mono ?_; rintro e w' ⟨rfl, rfl⟩)
      | (go_at_call 90; refine (HFR.out _ (HZ.out.below ((Below.refl _ _).alloc (Nat.le_refl _) _))).mono ?_; rintro e w1 ⟨rfl, hB⟩; obtain ⟨hc1, hf1, hN1⟩ := bcellN (N := w.heap.size + 1) hB (by first | assumption | (simp; done) | (simp; omega)); have HB1 := Lib.hid hB; clear hB; have hf0 : w1.frozen? ⟨w.heap.size, 0, none⟩ = false := (by rw [hf1 _ _ (by omega)]; simp [go_sem]); have hf0' : w1.frozen? ⟨w.heap.size, 1, none⟩ = false := (by rw [hf1 _ _ (by omega)]; simp [go_sem]); have hc0 : w1.cell? ⟨w.heap.size, 0, none⟩ = some (.int .u64 0) := (by rw [hc1 _ _ (by omega)]; simp [go_sem]); have hc0' : w1.cell? ⟨w.heap.size, 1, none⟩ = some (.int .u64 0) := (by rw [hc1 _ _ (by omega)]; simp [go_sem]); have hlt : w.heap.size < w1.heap.size := (by omega); have hne : w.heap.size ≠ w1.heap.size := (by omega); clear hc1 hf1; have hA1 : MAt w.heap.size 0 w1 := ⟨hc0, hc0', hf0, hf0'⟩))
    have hR : MAt w.heap.size 0 (((w1.setCell ⟨w.heap.size, 0, none⟩ (Value.int IntKind.u64 0)).setCell ⟨w.heap.size, 1, none⟩ (Value.int IntKind.u64 0)).alloc (Obj.cells #[Value.int IntKind.u64 (Mk.H 0), Value.int IntKind.u64 (Mk.L 0)] 107)) := (hA1.set 0).alloc (by simp; omega) _
    refine bodyPost_ret (v := .tuple #[.int .u16 0, .agg #[.int .u64 (Mk.H 0), .int .u64 (Mk.L 0)], .int .i64 C]) (by simp [results, Try.results56, go_sem, hR.c0, hR.c1]) rfl ⟨rfl, ?_⟩
    exact (((((((Below.refl _ w).alloc (Nat.le_refl _) _).trans (HB1.out.mono (by simp))).setCell (by simp) _).setCell (by simp) _).alloc (by simp; omega) _))
end Go.Proofs.Ytedhmoihlfjbdaa

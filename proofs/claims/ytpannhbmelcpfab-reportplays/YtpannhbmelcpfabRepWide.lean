
/-
  The reference's Wide: the numbers one after the other.
-/
import Derived.Test.YtpannhbmelcpfabRepFour
import Derived.OwnWalk
import Derived.WalkSpells
namespace Go.Proofs.Ytpannhbmelcpfab
open Go.RowKit
set_option linter.unusedVariables false
theorem val_int {k : IntKind} {a b : Int} (h : a = b) : Value.int k a = .int k b := by rw [h]
/-- The highest number after k of them (0: none yet). -/
def Wides.hs (zs : List Int) : Nat → Int
  | 0 => 0
  | k + 1 => Ser.high (Wides.hs zs k) (zs.getD k 0)
def Wides.val (zs : List Int) (k : Nat) : Int := Ser.extend (Wides.hs zs k) (zs.getD k 0)
def Wides.vals (zs : List Int) : Nat → List Int
  | 0 => []
  | k + 1 => Wides.vals zs k ++ [Wides.val zs k]
theorem Wides.len (zs : List Int) (k : Nat) : (Wides.vals zs k).length = k := by
  induction k with
  | zero => rfl
  | succ k ih => simp [Wides.vals, ih]
theorem Wides.get (zs : List Int) (k i : Nat) (h : i < k) : (Wides.vals zs k)[i]? = some (Wides.val zs i) := by
  induction k with
  | zero => omega
  | succ k ih =>
    simp only [Wides.vals]
    by_cases e : i < k
    · rw [List.getElem?_append_left (by rw [Wides.len]; exact e)]; exact ih e
    · obtain rfl : i = k := by omega
      rw [List.getElem?_append_right (by rw [Wides.len]; exact Nat.le_refl _), Wides.len]; simp
theorem Wides.hs_bd (zs : List Int) (n : Nat) (hz : ∀ i, i < n → 0 ≤ zs.getD i 0 ∧ zs.getD i 0 < 65536) (k : Nat) (hk : k ≤ n) :
    (k = 0 ∧ Wides.hs zs k = 0) ∨ 0 < k ∧ 4294967296 ≤ Wides.hs zs k ∧ Wides.hs zs k ≤ 4294967296 + 65535 + 32767 * k := by
  induction k with
  | zero => exact .inl ⟨rfl, rfl⟩
  | succ k ih =>
    right
    have h1 := hz k (by omega)
    have ih := ih (by omega)
    have e : Wides.hs zs (k + 1) = Ser.high (Wides.hs zs k) (zs.getD k 0) := rfl
    rw [e]
    generalize zs.getD k 0 = z at *
    generalize Wides.hs zs k = h at *
    have hb := Ser.ahead_bd z (h % 65536)
    unfold Ser.high Ser.extend
    rcases ih with ⟨_, rfl⟩ | ⟨_, h1, h2⟩
    · simp only [if_true]; rw [if_pos (by omega)]; omega
    · simp only [show ¬ h = 0 by omega, if_false]; split <;> omega
/-- The reference's own variable. -/
def Wides.top (zs : List Int) (k : Nat) : Int := if k = 0 then -1 else Wides.hs zs k
theorem Try.infoI64 : (Try.prog.info? 2).map (fun i => (i.zero, i.size, i.bytes)) = some (some (.int .i64 0), 1, 8) := by kernel_rfl
def RefWidePost (zs : List Int) (n : Nat) (w : World) (e : Ending) (w' : World) : Prop :=
  ∃ v, e = .returned v ∧ w'.ownsRow w.heap.size 2 1 v n ((Wides.vals zs n).map (Value.int .i64)) ∧ Below w.heap.size w w'
set_option maxRecDepth 100000 in
set_option maxHeartbeats 1000000 in
theorem refwide_any (a : Option Addr) (len cap : Nat) (zs : List Int) (w : World) (b off : Nat) (hl : len ≤ 200) (ha : 0 < len → a = some ⟨b, off, none⟩) (hc : ∀ i, i < len → b < w.heap.size ∧ w.cell? ⟨b, off + i, none⟩ = some (.int .u16 (zs.getD i 0)) ∧ (Lit.int .u16 (zs.getD i 0)).wf = true) :
    Calls Try.prog 112 #[.slice a len cap] w (RefWidePost zs len w) := by
  have hbd := Wides.hs_bd zs len (fun i hi => wf_u16 (hc i hi).2.2)
  obtain ⟨i0, hi, hz0, hz1, hz2⟩ := info_parts Try.infoI64
  have HC := Lib.hid hc; clear hc
  have HA := Lib.hid ha; clear ha
  have HB := Lib.hid hbd; clear hbd
  have HI := Lib.hid hi; have HZ0 := Lib.hid hz0; have HZ1 := Lib.hid hz1; have HZ2 := Lib.hid hz2
  clear hi hz0 hz1 hz2
  go_enter Try.func112, Try.ntmps112
  go_wp2
  go_loopw [3, 4, 5] (fun v h i wr => ∃ k : Nat, k ≤ len ∧ i = .int .i64 k ∧ h = .int .i64 (Wides.top zs k) ∧ Hid (wr.ownsRow w.heap.size 2 1 v k ((Wides.vals zs k).map (Value.int .i64))) ∧ Hid (Below w.heap.size w wr)) (fun _ _ i _ => len - (intOf i).toNat)
  case atStart => exact ⟨0, Nat.zero_le _, rfl, rfl, Lib.hid (World.ownsRow_made w _ 0 (Nat.le_refl _) (by decide) rfl), Lib.hid ((Below.refl _ _).alloc (Nat.le_refl _) _)⟩
  case round =>
    obtain ⟨k, hk, rfl, rfl, HO, HBk⟩ := hrel
    by_cases hlt : k < len
    · obtain ⟨hb, hck, hwf⟩ := HC.out k hlt
      have ck : wr.cell? ⟨b, off + k, none⟩ = some (.int .u16 (zs.getD k 0)) := (HBk.out.cell (p := ⟨b, off + k, none⟩) hb).trans hck
      have hwf := wf_u16 hwf
      obtain rfl := HA.out (by omega)
      have hbk := HB.out k hk
      have hv : Wides.vals zs (k + 1) = Wides.vals zs k ++ [Wides.val zs k] := rfl
      have ht : Wides.top zs (k + 1) = Ser.high (Wides.hs zs k) (zs.getD k 0) := by simp [Wides.top, Wides.hs]
      have hV : Wides.val zs k = Ser.extend (Wides.hs zs k) (zs.getD k 0) := rfl
      have hT : Wides.top zs k = if k = 0 then -1 else Wides.hs zs k := rfl
      generalize zs.getD k 0 = z at *
      generalize Wides.hs zs k = h at *
      generalize Wides.val zs k = V at *
      generalize Wides.top zs k = T at *
      have HV := Lib.hid hv; have HT := Lib.hid ht; clear hv ht hck
      obtain ⟨hz1, hz2⟩ := hwf
      have hbs : w.heap.size ≤ wr.heap.size := HBk.out.size
      rcases hbk with ⟨hk0, rfl⟩ | ⟨hk0, hh1, hh2⟩
      · simp only [Ser.extend, if_true] at hV
        simp only [hk0, if_true] at hT
        subst hV hT
        have hth : Wides.top zs (k + 1) = 4294967296 + z := by rw [HT.out]; unfold Ser.high Ser.extend; simp only [if_true]; rw [if_pos (by omega)]
        have HTH := Lib.hid hth; clear hth HT hk0
        go_wp2_with (at_builtin; refine wpList_append_own _ rfl _ _ 176 rfl w.heap.size 2 i0 (.int .i64 0) 1 8 Try.underlying176 HI.out HZ0.out HZ1.out HZ2.out rfl (by decide) _ _ _ rfl (HO.out.alloc _) ⟨wr.heap.size, 0, none⟩ 1 1 [.int .i64 (4294967296 + z)] rfl rfl (cell_one_new _ _ _) (by intro u hu; simp at hu; subst hu; rfl) (by unfold maxLen; omega) (by omega) (by simp; omega) ?_; intro v' w1 hown' hgrow _)
        have hO1 : Hid (w1.ownsRow w.heap.size 2 1 v' (k + 1) ((Wides.vals zs (k + 1)).map (Value.int .i64))) := by
          show World.ownsRow _ _ _ _ _ _ _
          rw [HV.out, List.map_append]; exact hown'
        have hB1 : Hid (Below w.heap.size w w1) := Lib.hid ((HBk.out.alloc hbs _).grown hgrow (by simp; omega) (fun j hj => (HO.out.lt j hj).1))
        clear hown' hgrow HO HBk ck
        go_wp2
        go_roundw
        case rel => exact ⟨k + 1, by omega, by go_num, val_int HTH.out.symm, hO1, hB1⟩
        case measure => simp [intOf]; omega
      · have hz0 : ¬ h = 0 := by omega
        simp only [Ser.extend, hz0, if_false] at hV
        simp only [show ¬ k = 0 by omega, if_false] at hT
        subst hT
        have hbd := Ser.ahead_bd z (T % 65536)
        have hth : Wides.top zs (k + 1) = if T < V then V else T := by rw [HT.out]; unfold Ser.high Ser.extend; simp only [hz0, if_false]; rw [hV]
        have HTH := Lib.hid hth; clear hth HT hk0 hz0
        have hm1 : (T % 65536) % 65536 = T % 65536 := by omega
        generalize hA : Ser.ahead z (T % 65536) = A at *
        subst hV
        by_cases hup : 0 < A
        · have hup1 : T < T + A := by omega
          have hth : Wides.top zs (k + 1) = T + A := by rw [HTH.out, if_pos hup1]
          clear HTH
          have HTH := Lib.hid hth; clear hth
          go_wp2_with (first
            | (go_at_call 121; refine (refahead_any _ _ (by omega) (by omega) (by omega) (by omega) _).mono ?_; rintro e w' ⟨rfl, rfl⟩)
            | (at_builtin; refine wpList_append_own _ rfl _ _ 176 rfl w.heap.size 2 i0 (.int .i64 0) 1 8 Try.underlying176 HI.out HZ0.out HZ1.out HZ2.out rfl (by decide) _ _ _ rfl (HO.out.alloc _) ⟨wr.heap.size, 0, none⟩ 1 1 [.int .i64 (T + A)] rfl rfl (cell_one_new _ _ _) (by intro u hu; simp at hu; subst hu; rfl) (by unfold maxLen; omega) (by omega) (by simp; omega) ?_; intro v' w1 hown' hgrow _))
          have hO1 : Hid (w1.ownsRow w.heap.size 2 1 v' (k + 1) ((Wides.vals zs (k + 1)).map (Value.int .i64))) := by
            show World.ownsRow _ _ _ _ _ _ _
            rw [HV.out, List.map_append]; exact hown'
          have hB1 : Hid (Below w.heap.size w w1) := Lib.hid ((HBk.out.alloc hbs _).grown hgrow (by simp; omega) (fun j hj => (HO.out.lt j hj).1))
          clear hown' hgrow HO HBk ck
          go_roundw
          case rel => exact ⟨k + 1, by omega, by go_num, val_int HTH.out.symm, hO1, hB1⟩
          case measure => simp [intOf]; omega
        · have hup1 : ¬ T < T + A := by omega
          have hth : Wides.top zs (k + 1) = T := by rw [HTH.out, if_neg hup1]
          clear HTH
          have HTH := Lib.hid hth; clear hth
          go_wp2_with (first
            | (go_at_call 121; refine (refahead_any _ _ (by omega) (by omega) (by omega) (by omega) _).mono ?_; rintro e w' ⟨rfl, rfl⟩)
            | (at_builtin; refine wpList_append_own _ rfl _ _ 176 rfl w.heap.size 2 i0 (.int .i64 0) 1 8 Try.underlying176 HI.out HZ0.out HZ1.out HZ2.out rfl (by decide) _ _ _ rfl (HO.out.alloc _) ⟨wr.heap.size, 0, none⟩ 1 1 [.int .i64 (T + A)] rfl rfl (cell_one_new _ _ _) (by intro u hu; simp at hu; subst hu; rfl) (by unfold maxLen; omega) (by omega) (by simp; omega) ?_; intro v' w1 hown' hgrow _))
          have hO1 : Hid (w1.ownsRow w.heap.size 2 1 v' (k + 1) ((Wides.vals zs (k + 1)).map (Value.int .i64))) := by
            show World.ownsRow _ _ _ _ _ _ _
            rw [HV.out, List.map_append]; exact hown'
          have hB1 : Hid (Below w.heap.size w w1) := Lib.hid ((HBk.out.alloc hbs _).grown hgrow (by simp; omega) (fun j hj => (HO.out.lt j hj).1))
          clear hown' hgrow HO HBk ck
          go_roundw
          case rel => exact ⟨k + 1, by omega, by go_num, val_int HTH.out.symm, hO1, hB1⟩
          case measure => simp [intOf]; omega
    · obtain rfl : k = len := by omega
      go_wp2
      go_ret
      exact ⟨_, rfl, HO.out, HBk.out⟩
end Go.Proofs.Ytpannhbmelcpfab

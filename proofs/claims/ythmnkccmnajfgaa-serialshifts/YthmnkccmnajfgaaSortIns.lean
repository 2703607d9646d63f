/-
  slices.insertionSortCmpFunc over a row of uint16.
-/
import Derived.Test.YthmnkccmnajfgaaSort0
namespace Go.Proofs.Ythmnkccmnajfgaa
open Go.RowKit Go.Sort
set_option linter.unusedVariables false
set_option maxHeartbeats 1000000 in
set_option maxRecDepth 100000 in
theorem insertion_any (blk off cap a b : Nat) (cb : Value) (cf : Int → Int → Int) (d : Array Int) (w0 w : World)
    (hcmp : CmpOk Try.prog 32 cb cf blk off d.size w0) (S : SRow blk off w0 d w) (hab : a ≤ b) (hb : b ≤ d.size) (hsz : d.size < 4611686018427387904) :
    Calls Try.prog 36 #[.slice (some ⟨blk, off, none⟩) d.size cap, .int .i64 a, .int .i64 b, .func (.func 32) #[] #[cb]] w (SortPost blk off w0 (· = insertionSort (ltC cf) d a b)) := by
  have HC := Lib.hid hcmp; clear hcmp
  have HS := Lib.hid S; clear S
  go_enter Try.func36, Try.ntmps36
  go_wp2
  go_loopg [8] (b - a) (fun g1 vi wr => ∃ (i : Nat) (dk : Array Int), vi = .int .i64 i ∧ a < i ∧ i ≤ b + 1 ∧ b + 1 - i ≤ g1 + 1 ∧ dk.size = d.size ∧ Hid (SRow blk off w0 dk wr) ∧ Hid (insOuter (ltC cf) a b i dk = insOuter (ltC cf) a b (a + 1) d))
  case atStart => exact ⟨a + 1, d, by go_num, by omega, by omega, by omega, rfl, HS, Lib.hid rfl⟩
  case round =>
    clear HS
    obtain ⟨i, dk, rfl, hai, hib, hg1, hsk, S1, HO⟩ := hrel
    by_cases hlt : i < b
    · have hltz : (i : Int) < (b : Int) := by omega
      go_wp2
      go_loopg [9] i (fun g2 vj wr2 => ∃ (j : Nat) (dj : Array Int), vj = .int .i64 j ∧ a ≤ j ∧ j ≤ i ∧ j ≤ g2 ∧ dj.size = d.size ∧ Hid (SRow blk off w0 dj wr2) ∧ Hid (insInner (ltC cf) a j dj = insInner (ltC cf) a i dk))
      case atStart => exact ⟨i, dk, rfl, by omega, Nat.le_refl _, Nat.le_refl _, hsk, S1, Lib.hid rfl⟩
      case round =>
        clear S1
        obtain ⟨j, dj, rfl, haj, hji, hg2, hsj, SJ, HI⟩ := hrel
        have out : (j ≤ a ∨ (ltC cf) dj[j]! dj[j - 1]! = false) → Hid (insOuter (ltC cf) a b (i + 1) dj = insOuter (ltC cf) a b (a + 1) d) := fun hs => by
          show _ = _
          rw [← HO.out, insO_go _ _ _ _ _ hlt, ← HI.out, insI_stop _ _ _ _ hs]
        have OUT := Lib.hid out
        clear out
        by_cases hja : a < j
        · obtain ⟨jp, rfl⟩ : ∃ jp, j = jp + 1 := ⟨j - 1, by omega⟩
          have hjaz : (a : Int) < (jp : Int) + 1 := by omega
          have cj := SJ.out.cell (jp + 1) (by omega)
          have cp := SJ.out.cell jp (by omega)
          have fj := SJ.out.fro (jp + 1) (by omega)
          have fp := SJ.out.fro jp (by omega)
          have hc := fun n => HC.out dj _ hsj (SJ.out.drewN n) (jp + 1) jp (by omega) (by omega)
          have jz : (jp : Int) + 1 < (d.size : Int) := by omega
          have jz1 : (jp : Int) < (d.size : Int) := by omega
          have p0 : (0 : Int) ≤ (jp : Int) + 1 := by omega
          have e0 : ((jp : Int) + 1).toNat = jp + 1 := by omega
          have hwp : IntKind.i64.wrap (jp : Int) = (jp : Int) := by rw [IntKind.wrap_i64]; omega
          generalize hxj : dj[jp + 1]! = xj at cj hc
          generalize hxp : dj[jp]! = xp at cp hc
          have Xj := Lib.hid hxj; clear hxj
          have Xp := Lib.hid hxp; clear hxp
          have HK := Lib.hid hc; clear hc
          by_cases hlv : cf xj xp < 0
          · go_wp2_with fail
            go_quiet ((go_at_call 32; exact Calls.quiet_of ((HK.out _).mono fun _ _ ⟨u, k, v⟩ => ⟨u, k, v⟩)))
            go_wp2_with fail
            have S2 := Lib.hid (SJ.out.drewN nq)
            have cj2 : (wr.drewN nq).cell? ⟨blk, off + (jp + 1), none⟩ = some (.int .u16 xj) := cj
            have cp2 : (wr.drewN nq).cell? ⟨blk, off + jp, none⟩ = some (.int .u16 xp) := cp
            have fj2 : (wr.drewN nq).frozen? ⟨blk, off + (jp + 1), none⟩ = false := fj
            have fp2 : (wr.drewN nq).frozen? ⟨blk, off + jp, none⟩ = false := fp
            clear cj cp fj fp HK SJ
            generalize wr.drewN nq = w2 at S2 cj2 cp2 fj2 fp2 ⊢
            obtain ⟨j1, hj1⟩ : ∃ j1, j1 = jp + 1 := ⟨_, rfl⟩
            rw [← hj1] at cj2 fj2 e0
            have J1 := Lib.hid hj1; clear hj1
            go_region
            all_goals go_wp2
            go_roundg jp
            case measure => omega
            case rel =>
              refine ⟨jp, swp dj (jp + 1) jp, by first | rfl | go_num, by omega, by omega, Nat.le_refl _, by rw [swp_size]; exact hsj, (show Hid _ from ?_), (show Hid _ from ?_)⟩
              · show SRow _ _ _ _ _
                rw [J1.out, ← Xp.out, ← Xj.out]
                exact (S2.out.drewN 1).swap (jp + 1) jp (by omega) (by omega)
              · show _ = _
                have := insI_go (ltC cf) a (jp + 1) dj hja (by simp only [Nat.add_sub_cancel]; rw [Xj.out, Xp.out]; exact decide_eq_true hlv)
                simp only [Nat.add_sub_cancel] at this
                rw [← HI.out, this]
          · go_wp2_with fail
            go_quiet ((go_at_call 32; exact Calls.quiet_of ((HK.out _).mono fun _ _ ⟨u, k, v⟩ => ⟨u, k, v⟩)))
            go_wp2
            go_roundg (b - (i + 1))
            case measure => omega
            case rel => exact ⟨i + 1, dj, by go_num, by omega, by omega, by omega, hsj, Lib.hid (SJ.out.drewN _), OUT.out (Or.inr (by simp only [Nat.add_sub_cancel]; rw [Xj.out, Xp.out]; exact decide_eq_false (by omega)))⟩
        · have hjaz : decide ((j : Int) > (a : Int)) = false := decide_eq_false (by omega)
          have hjaz' : ¬ (a : Int) < (j : Int) := by omega
          go_wp2_with fail
          go_quiet (fail)
          go_wp2
          go_roundg (b - (i + 1))
          case measure => omega
          case rel => exact ⟨i + 1, dj, by go_num, by omega, by omega, by omega, hsj, Lib.hid (SJ.out.drewN _), OUT.out (Or.inl (by omega))⟩
    · have hltz : ¬ (i : Int) < (b : Int) := by omega
      go_wp2
      go_end0
      exact ⟨rfl, dk, S1.out, by unfold Sort.insertionSort; rw [← HO.out, insO_stop _ _ _ _ _ hlt]⟩
end Go.Proofs.Ythmnkccmnajfgaa

/-
  slices.symMergeCmpFunc where one of the two rows has one number.
-/
import Derived.Test.YthmnkccmnajfgaaSymRot
import Derived.Test.YthmnkccmnajfgaaSortCmp
namespace Go.Proofs.Ythmnkccmnajfgaa
open Go.RowKit Go.Sort
set_option linter.unusedVariables false
theorem SWO.lt_of_not_lt_of_lt {lt : Int → Int → Bool} (hS : SWO lt) {x y z : Int} (h1 : lt y x = false) (h2 : lt y z = true) : lt x z = true := by
  cases h : lt x z
  · have := hS.ntrans _ _ _ h1 h; rw [h2] at this; cases this
  · rfl
theorem SWO.lt_of_lt_of_not_lt {lt : Int → Int → Bool} (hS : SWO lt) {x y z : Int} (h1 : lt x y = true) (h2 : lt z y = false) : lt x z = true := by
  cases h : lt x z
  · have := hS.ntrans _ _ _ h h2; rw [h1] at this; cases this
  · rfl
def MergePost (lt : Int → Int → Bool) (blk off a b : Nat) (w0 : World) (d : Array Int) (e : Ending) (w' : World) : Prop :=
  e = .returned (.tuple #[]) ∧ ∃ d', SRow blk off w0 d' w' ∧ PermIn a b d d' ∧ SortedIn lt a b d'
set_option maxHeartbeats 1000000 in
set_option maxRecDepth 100000 in
theorem symMerge_left (blk off cap a b : Nat) (cb : Value) (cf : Int → Int → Int) (d : Array Int) (w0 w : World) (hS : SWO (ltC cf))
    (hcmp : CmpOk Try.prog 32 cb cf blk off d.size w0) (S : SRow blk off w0 d w) (hab : a + 1 ≤ b) (hb : b ≤ d.size) (hsz : d.size < 1099511627776) (hs : SortedIn (ltC cf) (a + 1) b d) :
    Calls Try.prog 37 #[.slice (some ⟨blk, off, none⟩) d.size cap, .int .i64 a, .int .i64 ((a : Int) + 1), .int .i64 b, .func (.func 32) #[] #[cb]] w (MergePost (ltC cf) blk off a b w0 d) := by
  have HC := Lib.hid hcmp; clear hcmp
  have HS := Lib.hid S; clear S
  have t0 : ((a : Int) + 1 - (a : Int) == 1) = true := by rw [beq_iff_eq]; omega
  have HSO := Lib.hid hs; have HSW := Lib.hid hS; clear hs hS
  go_enter Try.func37, Try.ntmps37
  go_wp2
  go_loopg [10, 11] (b - a) (fun g1 vi vj wr => ∃ (i j : Nat), vi = .int .i64 i ∧ vj = .int .i64 j ∧ a + 1 ≤ i ∧ i ≤ j ∧ j ≤ b ∧ j - i ≤ g1 ∧ Hid (SRow blk off w0 d wr) ∧ Hid (∀ h, a + 1 ≤ h → h < i → ltC cf d[h]! d[a]! = true) ∧ Hid (∀ h, j ≤ h → h < b → ltC cf d[h]! d[a]! = false))
  case atStart => exact ⟨a + 1, b, by go_num, rfl, Nat.le_refl _, hab, Nat.le_refl _, by omega, HS, Lib.hid fun h h1 h2 => by omega, Lib.hid fun h h1 h2 => by omega⟩
  case round =>
    clear HS
    obtain ⟨i, j, rfl, rfl, hai, hij, hjb, hg1, SK, L1, L2⟩ := hrel
    by_cases hlt : i < j
    · have hltz : (i : Int) < (j : Int) := by omega
      obtain ⟨h, hh⟩ : ∃ h : Nat, ((i : Int) + (j : Int)) / 2 = (h : Int) := ⟨(i + j) / 2, by omega⟩
      have hb1 : i ≤ h := by omega
      have hb2 : h < j := by omega
      have ch := SK.out.cell h (by omega)
      have ca := SK.out.cell a (by omega)
      have hc := fun n => HC.out d _ rfl (SK.out.drewN n) h a (by omega) (by omega)
      have z1 : (h : Int) < (d.size : Int) := by omega
      have z2 : (a : Int) < (d.size : Int) := by omega
      generalize hx1 : d[h]! = x1 at ch hc
      generalize hx2 : d[a]! = x2 at ca hc
      have X1 := Lib.hid hx1; have X2 := Lib.hid hx2; clear hx1 hx2
      have HK := Lib.hid hc; clear hc
      by_cases hlv : cf x1 x2 < 0
      · go_wp2_with fail
        go_quiet ((go_at_call 32; exact Calls.quiet_of ((HK.out _).mono fun _ _ ⟨u, k, v⟩ => ⟨u, k, v⟩)))
        go_wp2
        go_roundg (j - (h + 1))
        case measure => omega
        case rel =>
          refine ⟨h + 1, j, by go_num, rfl, by omega, by omega, hjb, Nat.le_refl _, Lib.hid (SK.out.drewN _), Lib.hid fun t ht ht' => ?_, L2⟩
          have hl : ltC cf d[h]! d[a]! = true := by rw [X1.out, X2.out]; exact decide_eq_true hlv
          by_cases e : t = h
          · rw [e]; exact hl
          · by_cases e2 : t < i
            · exact L1.out t ht e2
            · have hs := HSO.out t h ht (by omega) (by omega)
              exact SWO.lt_of_not_lt_of_lt HSW.out hs hl
      · go_wp2_with fail
        go_quiet ((go_at_call 32; exact Calls.quiet_of ((HK.out _).mono fun _ _ ⟨u, k, v⟩ => ⟨u, k, v⟩)))
        go_wp2
        go_roundg (h - i)
        case measure => omega
        case rel =>
          refine ⟨i, h, rfl, rfl, hai, by omega, by omega, Nat.le_refl _, Lib.hid (SK.out.drewN _), L1, Lib.hid fun t ht ht' => ?_⟩
          have hl : ltC cf d[h]! d[a]! = false := by rw [X1.out, X2.out]; exact decide_eq_false (by omega)
          by_cases e : t = h
          · rw [e]; exact hl
          · by_cases e2 : j ≤ t
            · exact L2.out t e2 ht'
            · exact HSW.out.ntrans _ _ _ (HSO.out h t (by omega) (by omega) (by omega)) hl
    · obtain rfl : i = j := by omega
      have hltz : ¬ (i : Int) < (i : Int) := by omega
      obtain ⟨ip, hip⟩ : ∃ ip : Nat, (i : Int) - 1 = (ip : Int) := ⟨i - 1, by omega⟩
      go_wp2
      go_loopg [13] (i - a) (fun g2 vk wr => ∃ (k : Nat) (dk : Array Int), vk = .int .i64 k ∧ a ≤ k ∧ k < i ∧ i - k ≤ g2 ∧ dk.size = d.size ∧ Hid (SRow blk off w0 dk wr) ∧ Hid (PermIn a b d dk) ∧ Hid ((∀ t, a ≤ t → t < k → dk[t]! = d[t + 1]!) ∧ dk[k]! = d[a]! ∧ ∀ t, t < a ∨ k < t → dk[t]! = d[t]!))
      case atStart => exact ⟨a, d, rfl, Nat.le_refl _, by omega, by omega, rfl, SK, Lib.hid (permIn_refl _ _ _), Lib.hid ⟨fun t h1 h2 => by omega, rfl, fun t _ => rfl⟩⟩
      case round =>
        clear SK
        obtain ⟨k, dk, rfl, hak, hki, hg2, hsk, SD, PD, QD⟩ := hrel
        by_cases hlt2 : k + 1 < i
        · have hz : (k : Int) < (ip : Int) := by omega
          have c1 := SD.out.cell k (by omega)
          have c2 := SD.out.cell (k + 1) (by omega)
          have f1 := SD.out.fro k (by omega)
          have f2 := SD.out.fro (k + 1) (by omega)
          generalize hx1 : dk[k]! = x1 at c1
          generalize hx2 : dk[k + 1]! = x2 at c2
          have X1 := Lib.hid hx1; have X2 := Lib.hid hx2; clear hx1 hx2
          have p1 : (0 : Int) ≤ (k : Int) + 1 := by omega
          have q1 : (k : Int) < (d.size : Int) := by omega
          have q2 : (k : Int) + 1 < (d.size : Int) := by omega
          have e2 : ((k : Int) + 1).toNat = k + 1 := by omega
          obtain ⟨k1, hk1⟩ : ∃ k1, k1 = k + 1 := ⟨_, rfl⟩
          rw [← hk1] at c2 f2 e2
          have hne : k ≠ k1 := by omega
          have K1 := Lib.hid hk1; clear hk1
          go_wp2_with fail
          go_region
          all_goals go_wp2
          go_roundg (i - (k + 1))
          case measure => omega
          case rel =>
            refine ⟨k + 1, swp dk k (k + 1), by go_num, by omega, by omega, Nat.le_refl _, by rw [swp_size]; exact hsk, (show Hid _ from ?_), (show Hid _ from ?_), (show Hid _ from ?_)⟩
            · show SRow _ _ _ _ _
              rw [K1.out, ← X1.out, ← X2.out]
              exact (SD.out.drewN 1).swap k (k + 1) (by omega) (by omega)
            · exact permIn_trans _ _ _ _ _ PD.out (swp_permIn dk a b k (k + 1) (by omega) (by omega) (by omega) (by omega) (by omega))
            · obtain ⟨g1, g2, g3⟩ := QD.out
              refine ⟨fun t h1 h2 => ?_, ?_, fun t h1 => ?_⟩
              · rw [bang_swp _ _ _ _ (by omega) (by omega) (by omega)]
                by_cases e : t = k
                · rw [if_pos e, e]; exact g3 _ (by omega)
                · rw [if_neg e, if_neg (by omega)]; exact g1 t h1 (by omega)
              · rw [bang_swp _ _ _ _ (by omega) (by omega) (by omega), if_neg (by omega), if_pos rfl]; exact g2
              · rw [bang_swp _ _ _ _ (by omega) (by omega) (by omega), if_neg (by omega), if_neg (by omega)]; exact g3 t (by omega)
        · have hz : ¬ (k : Int) < (ip : Int) := by omega
          go_wp2
          (try simp only [Exit.inBlock, Exit.then]); refine bodyPost_ret (results_none rfl _ _ _) rfl ?_
          obtain ⟨g1, g2, g3⟩ := QD.out
          obtain rfl : k = i - 1 := by omega
          exact ⟨rfl, dk, SD.out, PD.out, sym_left HSW.out HSO.out hai hjb L1.out L2.out (fun t h1 h2 => g1 t h1 (by omega)) g2 (fun t h => g3 t (by omega))⟩

set_option maxHeartbeats 1000000 in
set_option maxRecDepth 100000 in
theorem symMerge_right (blk off cap a m : Nat) (cb : Value) (cf : Int → Int → Int) (d : Array Int) (w0 w : World) (hS : SWO (ltC cf))
    (hcmp : CmpOk Try.prog 32 cb cf blk off d.size w0) (S : SRow blk off w0 d w) (ham : a + 1 < m) (hb : m + 1 ≤ d.size) (hsz : d.size < 1099511627776) (hs : SortedIn (ltC cf) a m d) :
    Calls Try.prog 37 #[.slice (some ⟨blk, off, none⟩) d.size cap, .int .i64 a, .int .i64 m, .int .i64 ((m : Int) + 1), .func (.func 32) #[] #[cb]] w (MergePost (ltC cf) blk off a (m + 1) w0 d) := by
  have HC := Lib.hid hcmp; clear hcmp
  have HS := Lib.hid S; clear S
  have t0 : ((m : Int) - (a : Int) == 1) = false := beq_eq_false_iff_ne.2 (by omega)
  have t1 : ((m : Int) + 1 - (m : Int) == 1) = true := by rw [beq_iff_eq]; omega
  have HSO := Lib.hid hs; have HSW := Lib.hid hS; clear hs hS
  go_enter Try.func37, Try.ntmps37
  go_wp2
  go_loopg [14, 15] (m - a) (fun g1 vi vj wr => ∃ (i j : Nat), vi = .int .i64 i ∧ vj = .int .i64 j ∧ a ≤ i ∧ i ≤ j ∧ j ≤ m ∧ j - i ≤ g1 ∧ Hid (SRow blk off w0 d wr) ∧ Hid (∀ h, a ≤ h → h < i → ltC cf d[m]! d[h]! = false) ∧ Hid (∀ h, j ≤ h → h < m → ltC cf d[m]! d[h]! = true))
  case atStart => exact ⟨a, m, rfl, rfl, Nat.le_refl _, by omega, Nat.le_refl _, Nat.le_refl _, HS, Lib.hid fun h h1 h2 => by omega, Lib.hid fun h h1 h2 => by omega⟩
  case round =>
    clear HS
    obtain ⟨i, j, rfl, rfl, hai, hij, hjb, hg1, SK, L1, L2⟩ := hrel
    by_cases hlt : i < j
    · have hltz : (i : Int) < (j : Int) := by omega
      obtain ⟨h, hh⟩ : ∃ h : Nat, ((i : Int) + (j : Int)) / 2 = (h : Int) := ⟨(i + j) / 2, by omega⟩
      have hb1 : i ≤ h := by omega
      have hb2 : h < j := by omega
      have ch := SK.out.cell h (by omega)
      have ca := SK.out.cell m (by omega)
      have hc := fun n => HC.out d _ rfl (SK.out.drewN n) m h (by omega) (by omega)
      have z1 : (h : Int) < (d.size : Int) := by omega
      have z2 : (m : Int) < (d.size : Int) := by omega
      generalize hx1 : d[h]! = x1 at ch hc
      generalize hx2 : d[m]! = x2 at ca hc
      have X1 := Lib.hid hx1; have X2 := Lib.hid hx2; clear hx1 hx2
      have HK := Lib.hid hc; clear hc
      by_cases hlv : cf x2 x1 < 0
      · have hlv' : decide (cf x2 x1 < 0) = true := decide_eq_true hlv
        go_wp2_with fail
        go_quiet ((go_at_call 32; exact Calls.quiet_of ((HK.out _).mono fun _ _ ⟨u, k, v⟩ => ⟨u, k, v⟩)))
        go_wp2
        go_roundg (h - i)
        case measure => omega
        case rel =>
          refine ⟨i, h, rfl, rfl, hai, by omega, by omega, Nat.le_refl _, Lib.hid (SK.out.drewN _), L1, Lib.hid fun t ht ht' => ?_⟩
          have hl : ltC cf d[m]! d[h]! = true := by rw [X1.out, X2.out]; exact decide_eq_true hlv
          by_cases e : t = h
          · rw [e]; exact hl
          · by_cases e2 : j ≤ t
            · exact L2.out t e2 ht'
            · exact SWO.lt_of_lt_of_not_lt HSW.out hl (HSO.out h t (by omega) (by omega) (by omega))
      · have hlv' : decide (cf x2 x1 < 0) = false := decide_eq_false hlv
        go_wp2_with fail
        go_quiet ((go_at_call 32; exact Calls.quiet_of ((HK.out _).mono fun _ _ ⟨u, k, v⟩ => ⟨u, k, v⟩)))
        go_wp2
        go_roundg (j - (h + 1))
        case measure => omega
        case rel =>
          refine ⟨h + 1, j, by go_num, rfl, by omega, by omega, hjb, Nat.le_refl _, Lib.hid (SK.out.drewN _), Lib.hid fun t ht ht' => ?_, L2⟩
          have hl : ltC cf d[m]! d[h]! = false := by rw [X1.out, X2.out]; exact decide_eq_false (by omega)
          by_cases e : t = h
          · rw [e]; exact hl
          · by_cases e2 : t < i
            · exact L1.out t ht e2
            · exact HSW.out.ntrans _ _ _ hl (HSO.out t h ht (by omega) (by omega))
    · obtain rfl : i = j := by omega
      have hltz : ¬ (i : Int) < (i : Int) := by omega
      go_wp2
      go_loopg [17] (m - i) (fun g2 vk wr => ∃ (k : Nat) (dk : Array Int), vk = .int .i64 k ∧ i ≤ k ∧ k ≤ m ∧ k - i ≤ g2 ∧ dk.size = d.size ∧ Hid (SRow blk off w0 dk wr) ∧ Hid (PermIn a (m + 1) d dk) ∧ Hid ((∀ t, k < t → t ≤ m → dk[t]! = d[t - 1]!) ∧ dk[k]! = d[m]! ∧ ∀ t, t < k ∨ m < t → dk[t]! = d[t]!))
      case atStart => exact ⟨m, d, rfl, by omega, Nat.le_refl _, Nat.le_refl _, rfl, SK, Lib.hid (permIn_refl _ _ _), Lib.hid ⟨fun t h1 h2 => by omega, rfl, fun t _ => rfl⟩⟩
      case round =>
        clear SK
        obtain ⟨k, dk, rfl, hik, hkm, hg2, hsk, SD, PD, QD⟩ := hrel
        by_cases hlt2 : i < k
        · obtain ⟨kp, rfl⟩ : ∃ kp, k = kp + 1 := ⟨k - 1, by omega⟩
          have hz : (i : Int) < (kp : Int) + 1 := by omega
          have c1 := SD.out.cell kp (by omega)
          have c2 := SD.out.cell (kp + 1) (by omega)
          have f1 := SD.out.fro kp (by omega)
          have f2 := SD.out.fro (kp + 1) (by omega)
          generalize hx1 : dk[kp]! = x1 at c1
          generalize hx2 : dk[kp + 1]! = x2 at c2
          have X1 := Lib.hid hx1; have X2 := Lib.hid hx2; clear hx1 hx2
          have p1 : (0 : Int) ≤ (kp : Int) + 1 := by omega
          have q1 : (kp : Int) < (d.size : Int) := by omega
          have q2 : (kp : Int) + 1 < (d.size : Int) := by omega
          have e2 : ((kp : Int) + 1).toNat = kp + 1 := by omega
          have hwp : IntKind.i64.wrap (kp : Int) = (kp : Int) := by rw [IntKind.wrap_i64]; omega
          obtain ⟨k1, hk1⟩ : ∃ k1, k1 = kp + 1 := ⟨_, rfl⟩
          rw [← hk1] at c2 f2 e2
          have hne : kp ≠ k1 := by omega
          have K1 := Lib.hid hk1; clear hk1
          go_wp2_with fail
          go_region
          all_goals go_wp2
          go_roundg (kp - i)
          case measure => omega
          case rel =>
            refine ⟨kp, swp dk (kp + 1) kp, by first | rfl | go_num, by omega, by omega, Nat.le_refl _, by rw [swp_size]; exact hsk, (show Hid _ from ?_), (show Hid _ from ?_), (show Hid _ from ?_)⟩
            · show SRow _ _ _ _ _
              rw [K1.out, ← X1.out, ← X2.out]
              exact (SD.out.drewN 1).swap (kp + 1) kp (by omega) (by omega)
            · exact permIn_trans _ _ _ _ _ PD.out (swp_permIn dk a (m + 1) (kp + 1) kp (by omega) (by omega) (by omega) (by omega) (by omega))
            · obtain ⟨g1, g2, g3⟩ := QD.out
              refine ⟨fun t h1 h2 => ?_, ?_, fun t h1 => ?_⟩
              · rw [bang_swp _ _ _ _ (by omega) (by omega) (by omega)]
                by_cases e : t = kp + 1
                · rw [if_pos e, e]; simpa using g3 kp (by omega)
                · rw [if_neg e, if_neg (by omega)]; exact g1 t (by omega) h2
              · rw [bang_swp _ _ _ _ (by omega) (by omega) (by omega), if_neg (by omega), if_pos rfl]; exact g2
              · rw [bang_swp _ _ _ _ (by omega) (by omega) (by omega), if_neg (by omega), if_neg (by omega)]; exact g3 t (by omega)
        · have hz : ¬ (i : Int) < (k : Int) := by omega
          obtain rfl : i = k := by omega
          go_wp2
          (try simp only [Exit.inBlock, Exit.then]); refine bodyPost_ret (results_none rfl _ _ _) rfl ?_
          obtain ⟨g1, g2, g3⟩ := QD.out
          exact ⟨rfl, dk, SD.out, PD.out, sym_right HSW.out HSO.out hai hjb L1.out L2.out (fun t h1 h2 => g1 t h1 h2) g2 (fun t h => g3 t h)⟩
end Go.Proofs.Ythmnkccmnajfgaa

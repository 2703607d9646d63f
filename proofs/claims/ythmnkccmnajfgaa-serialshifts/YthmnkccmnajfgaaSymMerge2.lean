/-
  slices.symMergeCmpFunc, whole.
-/
import Derived.Test.YthmnkccmnajfgaaSymMerge1
import Derived.Deep.DeepCutAuto
namespace Go.Proofs.Ythmnkccmnajfgaa
open Go.RowKit Go.Sort
set_option linter.unusedVariables false
/-- What a merge of a shorter range does. -/
def SymIH (L : Nat) (blk off cap n : Nat) (cb : Value) (cf : Int → Int → Int) (w0 : World) : Prop :=
  ∀ (a m b : Nat) (d : Array Int) (w : World), b - a < L → a < m → m < b → b ≤ n → d.size = n → SRow blk off w0 d w → SortedIn (ltC cf) a m d → SortedIn (ltC cf) m b d →
    Calls Try.prog 37 #[.slice (some ⟨blk, off, none⟩) n cap, .int .i64 a, .int .i64 m, .int .i64 b, .func (.func 32) #[] #[cb]] w (MergePost (ltC cf) blk off a b w0 d)
/-- Where the search begins. -/
def SymFrom (a m b mid s0 r0 : Nat) : Prop := (mid < m ∧ s0 = mid + m - b ∧ r0 = mid) ∨ (m ≤ mid ∧ s0 = a ∧ r0 = m)
theorem SymFrom.bd {a m b mid s0 r0 : Nat} (ham : a + 1 < m) (hmb : m + 1 < b) (hm : mid = (a + b) / 2) (h : SymFrom a m b mid s0 r0) : a ≤ s0 ∧ s0 ≤ r0 ∧ r0 ≤ mid ∧ r0 ≤ m ∧ mid + m ≤ b + s0 := by
  rcases h with ⟨_, _, _⟩ | ⟨_, _, _⟩ <;> omega
theorem Rot.none {d : Array Int} {s m en : Nat} (h : s ≥ m ∨ m ≥ en) (h1 : s ≤ m := by omega) (h2 : m ≤ en := by omega) : Rot d d s m en := by
  intro t
  by_cases e : s = m
  · subst e
    by_cases c : s ≤ t ∧ t < s + (en - s)
    · rw [if_pos c]; congr 1; omega
    · rw [if_neg c, if_neg (by omega)]
  · obtain rfl : m = en := by omega
    rw [if_neg (by omega)]
    by_cases c : s + (m - m) ≤ t ∧ t < m
    · rw [if_pos c]; congr 1; omega
    · rw [if_neg c]
def SymIf (P : Prop) [Decidable P] (v : Value) : Prop := v = .bool (decide P)
set_option maxHeartbeats 4000000 in
set_option maxRecDepth 100000 in
theorem symMerge_gen (blk off cap a m b : Nat) (cb : Value) (cf : Int → Int → Int) (d : Array Int) (w0 w : World) (hS : SWO (ltC cf))
    (hcmp : CmpOk Try.prog 32 cb cf blk off d.size w0) (S : SRow blk off w0 d w) (ham : a + 1 < m) (hmb : m + 1 < b) (hb : b ≤ d.size) (hsz : d.size < 1099511627776) (hs1 : SortedIn (ltC cf) a m d) (hs2 : SortedIn (ltC cf) m b d)
    (ih : SymIH (b - a) blk off cap d.size cb cf w0) :
    Calls Try.prog 37 #[.slice (some ⟨blk, off, none⟩) d.size cap, .int .i64 a, .int .i64 m, .int .i64 b, .func (.func 32) #[] #[cb]] w (MergePost (ltC cf) blk off a b w0 d) := by
  have HC := Lib.hid hcmp; clear hcmp
  have HS := Lib.hid S; clear S
  have HIH := Lib.hid ih; clear ih
  have t0 : ((m : Int) - (a : Int) == 1) = false := beq_eq_false_iff_ne.2 (by omega)
  have t1 : ((b : Int) - (m : Int) == 1) = false := beq_eq_false_iff_ne.2 (by omega)
  have H1 := Lib.hid hs1; have H2 := Lib.hid hs2; have HSW := Lib.hid hS; clear hs1 hs2 hS
  obtain ⟨mid, hmid⟩ : ∃ mid : Nat, ((a : Int) + (b : Int)) / 2 = (mid : Int) := ⟨(a + b) / 2, by omega⟩
  have hm1 : a < mid := by omega
  have hm2 : mid < b := by omega
  have hm3 : mid - a ≤ b - mid := by omega
  have hm4 : b - mid ≤ mid - a + 1 := by omega
  have HM : Hid (mid = (a + b) / 2) := Lib.hid (by omega)
  go_enter Try.func37, Try.ntmps37
  go_upto_if 140 with (fail)
  go_cut [20, 21] from 138 to 146 (fun x y wx => ∃ s0 r0 : Nat, x = .int .i64 s0 ∧ y = .int .i64 r0 ∧ Hid (SymFrom a m b mid s0 r0) ∧ wx = w)
  case first =>
    by_cases c : mid < m
    · go_wp2_with fail
      go_meet
      exact ⟨mid + m - b, mid, by first | go_num | (congr 1; omega), rfl, Lib.hid (.inl ⟨c, rfl, rfl⟩), rfl⟩
    · go_wp2_with fail
      go_meet
      exact ⟨a, m, rfl, rfl, Lib.hid (.inr ⟨by omega, rfl, rfl⟩), rfl⟩
  case rest =>
    obtain ⟨s0, r0, rfl, rfl, HF, rfl⟩ := hcut
    have hF := SymFrom.bd ham hmb HM.out HF.out
    obtain ⟨f1, f2, f3, f4, f5⟩ := hF
    go_wp2
    go_loopg [20, 21] (b - a) (fun g1 vs vr wr => ∃ (s r : Nat), vs = .int .i64 s ∧ vr = .int .i64 r ∧ s0 ≤ s ∧ s ≤ r ∧ r ≤ r0 ∧ r - s ≤ g1 ∧ Hid (SRow blk off w0 d wr) ∧ Hid (∀ c, s0 ≤ c → c < s → ltC cf d[mid + m - 1 - c]! d[c]! = false) ∧ Hid (∀ c, r ≤ c → c < r0 → ltC cf d[mid + m - 1 - c]! d[c]! = true))
    case atStart => exact ⟨s0, r0, rfl, rfl, Nat.le_refl _, f2, Nat.le_refl _, by omega, HS, Lib.hid fun h h1 h2 => by omega, Lib.hid fun h h1 h2 => by omega⟩
    case round =>
      clear HS
      obtain ⟨s, r, rfl, rfl, hs0, hsr, hr0, hg1, SK, L1, L2⟩ := hrel
      by_cases hlt : s < r
      · have hltz : (s : Int) < (r : Int) := by omega
        obtain ⟨c, hc0⟩ : ∃ c : Nat, ((s : Int) + (r : Int)) / 2 = (c : Int) := ⟨(s + r) / 2, by omega⟩
        have hb1 : s ≤ c := by omega
        have hb2 : c < r := by omega
        obtain ⟨q, hq⟩ : ∃ q : Nat, (mid : Int) + (m : Int) - 1 - (c : Int) = (q : Int) := ⟨mid + m - 1 - c, by omega⟩
        have hq1 : mid + m - 1 - c = q := by omega
        have hq2 : m ≤ q := by omega
        have hq3 : q < b := by omega
        have ch := SK.out.cell q (by omega)
        have ca := SK.out.cell c (by omega)
        have hc := fun n => HC.out d _ rfl (SK.out.drewN n) q c (by omega) (by omega)
        have z1 : (q : Int) < (d.size : Int) := by omega
        have z2 : (c : Int) < (d.size : Int) := by omega
        generalize hx1 : d[q]! = x1 at ch hc
        generalize hx2 : d[c]! = x2 at ca hc
        have X1 := Lib.hid hx1; have X2 := Lib.hid hx2; clear hx1 hx2
        have HK := Lib.hid hc; clear hc
        have HQ := Lib.hid hq1; clear hq1
        by_cases hlv : cf x1 x2 < 0
        · have hlv' : decide (cf x1 x2 < 0) = true := decide_eq_true hlv
          go_wp2_with fail
          go_quiet ((go_at_call 32; exact Calls.quiet_of ((HK.out _).mono fun _ _ ⟨u, k, v⟩ => ⟨u, k, v⟩)))
          go_wp2
          go_roundg (c - s)
          case measure => omega
          case rel =>
            refine ⟨s, c, rfl, rfl, hs0, by omega, by omega, Nat.le_refl _, Lib.hid (SK.out.drewN _), L1, Lib.hid fun t ht ht' => ?_⟩
            have hl : ltC cf d[mid + m - 1 - c]! d[c]! = true := by rw [HQ.out, X1.out, X2.out]; exact decide_eq_true hlv
            by_cases e : t = c
            · rw [e]; exact hl
            · by_cases e2 : r ≤ t
              · exact L2.out t e2 ht'
              · have k1 : ltC cf d[t]! d[c]! = false := H1.out c t (by omega) (by omega) (by omega)
                have k2 : ltC cf d[mid + m - 1 - c]! d[mid + m - 1 - t]! = false := H2.out _ _ (by omega) (by omega) (by omega)
                exact SWO.lt_of_not_lt_of_lt HSW.out k2 (SWO.lt_of_lt_of_not_lt HSW.out hl k1)
        · have hlv' : decide (cf x1 x2 < 0) = false := decide_eq_false hlv
          go_wp2_with fail
          go_quiet ((go_at_call 32; exact Calls.quiet_of ((HK.out _).mono fun _ _ ⟨u, k, v⟩ => ⟨u, k, v⟩)))
          go_wp2
          go_roundg (r - (c + 1))
          case measure => omega
          case rel =>
            refine ⟨c + 1, r, by go_num, rfl, by omega, by omega, hr0, Nat.le_refl _, Lib.hid (SK.out.drewN _), Lib.hid fun t ht ht' => ?_, L2⟩
            have hl : ltC cf d[mid + m - 1 - c]! d[c]! = false := by rw [HQ.out, X1.out, X2.out]; exact decide_eq_false (by omega)
            by_cases e : t = c
            · rw [e]; exact hl
            · by_cases e2 : t < s
              · exact L1.out t ht e2
              · have k1 : ltC cf d[c]! d[t]! = false := H1.out t c (by omega) (by omega) (by omega)
                have k2 : ltC cf d[mid + m - 1 - t]! d[mid + m - 1 - c]! = false := H2.out _ _ (by omega) (by omega) (by omega)
                exact HSW.out.ntrans _ _ _ k2 (HSW.out.ntrans _ _ _ hl k1)
      · obtain rfl : s = r := by omega
        have hltz : ¬ (s : Int) < (s : Int) := by omega
        obtain ⟨en, hen⟩ : ∃ en : Nat, (mid : Int) + (m : Int) - (s : Int) = (en : Int) := ⟨mid + m - s, by omega⟩
        have hE : mid + m - s = en := by omega
        have he1 : m ≤ en := by omega
        have he2 : en ≤ b := by omega
        have he3 : mid ≤ en := by omega
        have G1 : Hid (a < s → mid + m - s < b → ltC cf d[mid + m - s]! d[s - 1]! = false) := Lib.hid fun h1 h2 => by
          have := L1.out (s - 1) (by rcases HF.out with ⟨_, _, _⟩ | ⟨_, _, _⟩ <;> omega) (by omega)
          rwa [show mid + m - 1 - (s - 1) = mid + m - s by omega] at this
        have G2 : Hid (s < m → m < mid + m - s → ltC cf d[mid + m - 1 - s]! d[s]! = true) := Lib.hid fun h1 h2 =>
          L2.out s (Nat.le_refl _) (by rcases HF.out with ⟨_, _, _⟩ | ⟨_, _, _⟩ <;> omega)
        have HE := Lib.hid hE; clear hE
        clear L1 L2 HC
        have hsz2 : d.size < 4611686018427387904 := by omega
        go_upto_region 39 with (fail)
        go_cut [185] from 178 to 185 (fun t wx => SymIf (s < m ∧ m < en) t ∧ wx = wr)
        case first =>
          by_cases c1 : s < m
          · by_cases c2 : m < en
            · go_wp2_with fail
              go_meet
              exact ⟨by simp [SymIf, c1, c2], rfl⟩
            · go_wp2_with fail
              go_meet
              exact ⟨by simp [SymIf, c1, c2], rfl⟩
          · go_wp2_with fail
            go_meet
            exact ⟨by simp [SymIf, c1], rfl⟩
        case rest =>
          obtain ⟨hif, rfl⟩ := hcut
          unfold SymIf at hif
          have hc := fun h1 h2 => rotate_any blk off cap s m en a b cb d w0 _ SK.out h1 h2 (by omega) he2 hb hsz2
          have HR := Lib.hid hc; clear hc
          go_upto_if 185 with (fail)
          go_cut [] from 185 to 191 (fun wx => ∃ d1 : Array Int, Hid (SRow blk off w0 d1 wx) ∧ Hid (PermIn a b d d1) ∧ Hid (Rot d d1 s m en))
          case first =>
            by_cases c1 : s < m ∧ m < en
            · rw [decide_eq_true c1] at hif
              subst hif
              go_wp2_with fail
              refine (HR.out c1.1 c1.2).mono ?_
              rintro e w1 ⟨rfl, d1, S1, P1, R1⟩
              have S1' := Lib.hid S1; have P1' := Lib.hid P1; have R1' := Lib.hid R1; clear S1 P1 R1
              go_wp2_with fail
              go_meet
              exact ⟨d1, S1', P1', R1'⟩
            · rw [decide_eq_false c1] at hif
              subst hif
              go_wp2_with fail
              go_meet
              refine ⟨d, SK, Lib.hid (permIn_refl _ _ _), Lib.hid (Rot.none ?_)⟩
              omega
          case rest =>
            obtain ⟨d1, S1, P1, R1⟩ := hcut
            have hh := sym_halves HSW.out (by omega) (by omega) HM.out rfl H1.out H2.out (by omega) (by omega) (by omega) (by rw [HE.out]; exact he2) (by rw [HE.out]; exact he1) G1.out G2.out (by rw [HE.out]; exact R1.out)
            rw [HE.out] at hh
            have HH := Lib.hid hh
            have hs1 : d1.size = d.size := P1.out.1
            clear hh SK HR R1 G1 G2 hif
            go_upto_region 41 with (fail)
            go_cut [199] from 192 to 199 (fun t wx => SymIf (a < s ∧ s < mid) t ∧ Hid (SRow blk off w0 d1 wx))
            case first =>
              by_cases c1 : a < s
              · by_cases c2 : s < mid
                · go_wp2_with fail
                  go_meet
                  exact ⟨by simp [SymIf, c1, c2], S1⟩
                · go_wp2_with fail
                  go_meet
                  exact ⟨by simp [SymIf, c1, c2], S1⟩
              · go_wp2_with fail
                go_meet
                exact ⟨by simp [SymIf, c1], S1⟩
            case rest =>
              clear S1
              obtain ⟨hif, S1⟩ := hcut
              unfold SymIf at hif
              have hc := fun h1 h2 => HIH.out a s mid d1 _ (by omega) h1 h2 (by omega) hs1 S1.out HH.out.1 HH.out.2.1
              have HR := Lib.hid hc; clear hc
              go_upto_if 199 with (fail)
              go_cut [] from 199 to 205 (fun wx => ∃ d2 : Array Int, Hid (SRow blk off w0 d2 wx) ∧ Hid (PermIn a mid d1 d2) ∧ Hid (SortedIn (ltC cf) a mid d2))
              case first =>
                by_cases c1 : a < s ∧ s < mid
                · rw [decide_eq_true c1] at hif
                  subst hif
                  go_wp2_with fail
                  refine (HR.out c1.1 c1.2).mono ?_
                  rintro e w1 ⟨rfl, d2, S2, P2, R2⟩
                  have S2' := Lib.hid S2; have P2' := Lib.hid P2; have R2' := Lib.hid R2; clear S2 P2 R2
                  go_wp2_with fail
                  go_meet
                  exact ⟨d2, S2', P2', R2'⟩
                · rw [decide_eq_false c1] at hif
                  subst hif
                  go_wp2_with fail
                  go_meet
                  refine ⟨d1, S1, Lib.hid (permIn_refl _ _ _), Lib.hid ?_⟩
                  by_cases e : a < s
                  · obtain rfl : s = mid := by omega
                    exact HH.out.1
                  · obtain rfl : a = s := by omega
                    exact HH.out.2.1
              case rest =>
                obtain ⟨d2, S2, P2, O2⟩ := hcut
                have hx := sym_first (lt := ltC cf) (by omega) (by omega) P2.out HH.out.2.2.2.2
                have k3 : SortedIn (ltC cf) mid en d2 := sorted_congr HH.out.2.2.1 fun t h1 h2 => P2.out.2.1 t (by omega)
                have k4 : SortedIn (ltC cf) en b d2 := sorted_congr HH.out.2.2.2.1 fun t h1 h2 => P2.out.2.1 t (by omega)
                have HX := Lib.hid hx; have K3 := Lib.hid k3; have K4 := Lib.hid k4
                have hs2 : d2.size = d.size := by rw [P2.out.1]; exact hs1
                clear hx k3 k4 HR HH S1 hif
                go_upto_region 43 with (fail)
                go_cut [213] from 206 to 213 (fun t wx => SymIf (mid < en ∧ en < b) t ∧ Hid (SRow blk off w0 d2 wx))
                case first =>
                  by_cases c1 : mid < en
                  · by_cases c2 : en < b
                    · go_wp2_with fail
                      go_meet
                      exact ⟨by simp [SymIf, c1, c2], S2⟩
                    · go_wp2_with fail
                      go_meet
                      exact ⟨by simp [SymIf, c1, c2], S2⟩
                  · go_wp2_with fail
                    go_meet
                    exact ⟨by simp [SymIf, c1], S2⟩
                case rest =>
                  clear S2
                  obtain ⟨hif, S2⟩ := hcut
                  unfold SymIf at hif
                  have hc := fun h1 h2 => HIH.out mid en b d2 _ (by omega) h1 h2 hb hs2 S2.out K3.out K4.out
                  have HR := Lib.hid hc; clear hc
                  have HP := Lib.hid (permIn_trans _ _ _ _ _ P1.out (permIn_mono _ _ _ _ a b (Nat.le_refl _) (by omega) (by omega) P2.out))
                  by_cases c1 : mid < en ∧ en < b
                  · rw [decide_eq_true c1] at hif
                    subst hif
                    go_wp2_with fail
                    refine (HR.out c1.1 c1.2).mono ?_
                    rintro e w1 ⟨rfl, d3, S3, P3, R3⟩
                    have S3' := Lib.hid S3; have P3' := Lib.hid P3; have R3' := Lib.hid R3; clear S3 P3 R3
                    go_wp2_with fail
                    go_end0
                    refine ⟨rfl, d3, S3'.out, permIn_trans _ _ _ _ _ HP.out (permIn_mono _ _ _ _ a b (by omega) (Nat.le_refl _) (by omega) P3'.out), ?_⟩
                    exact sorted_join (sorted_congr O2.out fun t h1 h2 => P3'.out.2.1 t (by omega)) R3'.out (sym_second (by omega) (by omega) P3'.out HX.out)
                  · rw [decide_eq_false c1] at hif
                    subst hif
                    go_wp2_with fail
                    go_end0
                    refine ⟨rfl, d2, S2.out, HP.out, sorted_join O2.out ?_ HX.out⟩
                    by_cases e : mid < en
                    · obtain rfl : en = b := by omega
                      exact K3.out
                    · obtain rfl : mid = en := by omega
                      exact K4.out
end Go.Proofs.Ythmnkccmnajfgaa

/-
  slices.symMergeCmpFunc and slices.stableCmpFunc, for every length; serial.Sort.
-/
import Derived.Test.YthmnkccmnajfgaaSymMerge2
import Derived.Test.YthmnkccmnajfgaaSortSmall
namespace Go.Proofs.Ythmnkccmnajfgaa
open Go.RowKit Go.Sort
set_option linter.unusedVariables false
theorem sym_any (L blk off cap n : Nat) (cb : Value) (cf : Int → Int → Int) (w0 : World) (hS : SWO (ltC cf)) (hcmp : CmpOk Try.prog 32 cb cf blk off n w0) (hsz : n < 1099511627776) : SymIH L blk off cap n cb cf w0 := by
  induction L with
  | zero => intro a m b d w h; omega
  | succ L ih =>
    intro a m b d w hL ham hmb hb hd S h1 h2
    subst hd
    by_cases c1 : m = a + 1
    · subst c1
      have := symMerge_left blk off cap a b cb cf d w0 w hS hcmp S (by omega) hb hsz h2
      rw [show ((a + 1 : Nat) : Int) = (a : Int) + 1 by omega]
      exact this
    · by_cases c2 : b = m + 1
      · subst c2
        have := symMerge_right blk off cap a m cb cf d w0 w hS hcmp S (by omega) hb hsz h1
        rw [show ((m + 1 : Nat) : Int) = (m : Int) + 1 by omega]
        exact this
      · exact symMerge_gen blk off cap a m b cb cf d w0 w hS hcmp S (by omega) (by omega) hb hsz h1 h2 (fun a' m' b' d' w' hl => ih a' m' b' d' w' (by omega))
theorem sym_e1 (q s : Nat) : (2 * q) * s = q * (2 * s) := by rw [Nat.mul_comm 2 q, Nat.mul_assoc]
theorem sym_e2 (q s : Nat) : (2 * q + 1) * s = q * (2 * s) + s := by rw [Nat.succ_mul, sym_e1]
theorem sym_e3 (q s : Nat) : (2 * q + 2) * s = q * (2 * s) + 2 * s := by rw [Nat.add_mul, sym_e1]
theorem sym_e4 (q s : Nat) : (q + 1) * (2 * s) = q * (2 * s) + 2 * s := Nat.succ_mul _ _
/-- Each block of s numbers is sorted. -/
def Blocks (lt : Int → Int → Bool) (s n q : Nat) (d : Array Int) : Prop := ∀ k, k < q → SortedIn lt (k * s) (min ((k + 1) * s) n) d
theorem Blocks.perm {lt : Int → Int → Bool} {s n q : Nat} {a b : Nat} {d d' : Array Int} (h : Blocks lt s n q d) (hP : PermIn a b d d') (ha : q * s ≤ a) : Blocks lt s n q d' := fun k hk => by
  refine sorted_congr (h k hk) fun t h1 h2 => hP.2.1 t (.inl ?_)
  have : (k + 1) * s ≤ q * s := Nat.mul_le_mul_right s (by omega)
  omega
theorem Blocks.snoc {lt : Int → Int → Bool} {s n q : Nat} {d : Array Int} (h : Blocks lt s n q d) (hs : SortedIn lt (q * s) (min ((q + 1) * s) n) d) : Blocks lt s n (q + 1) d := fun k hk => by
  by_cases e : k < q
  · exact h k e
  · obtain rfl : k = q := by omega
    exact hs
set_option maxHeartbeats 2000000 in
set_option maxRecDepth 100000 in
theorem stable_any (blk off cap : Nat) (cb : Value) (cf : Int → Int → Int) (d : Array Int) (w0 w : World) (hS : SWO (ltC cf))
    (hcmp : CmpOk Try.prog 32 cb cf blk off d.size w0) (S : SRow blk off w0 d w) (hsz : d.size < 1048576) :
    Calls Try.prog 34 #[.slice (some ⟨blk, off, none⟩) d.size cap, .int .i64 d.size, .func (.func 32) #[] #[cb]] w (SortPost blk off w0 fun d' => PermIn 0 d.size d d' ∧ SortedIn (ltC cf) 0 d.size d') := by
  have hi := fun a b dk wk (h : dk.size = d.size) (Sk : SRow blk off w0 dk wk) (hab : a ≤ b) (hb : b ≤ dk.size) => insertion_any blk off cap a b cb cf dk w0 wk (by rw [h]; exact hcmp) Sk hab hb (by omega)
  have HI := Lib.hid hi
  have HSY := Lib.hid (fun L => sym_any L blk off cap d.size cb cf w0 hS hcmp (by omega))
  have HS := Lib.hid S; have HSW := Lib.hid hS
  clear hi hcmp S hS
  go_enter Try.func34, Try.ntmps34
  go_wp2
  go_loopg [7, 8] (d.size + 1) (fun g1 va vb wr => ∃ (q : Nat) (dk : Array Int), va = .int .i64 ((q * 20 : Nat) : Int) ∧ vb = .int .i64 (((q + 1) * 20 : Nat) : Int) ∧ q * 20 ≤ d.size ∧ d.size + 1 - q * 20 ≤ g1 ∧ dk.size = d.size ∧ Hid (SRow blk off w0 dk wr) ∧ Hid (PermIn 0 d.size d dk) ∧ Hid (Blocks (ltC cf) 20 d.size q dk))
  case atStart => exact ⟨0, d, rfl, rfl, by omega, by omega, rfl, HS, Lib.hid (permIn_refl _ _ _), Lib.hid fun k hk => by omega⟩
  case round =>
    clear HS
    obtain ⟨q, dk, rfl, rfl, hq, hg1, hsk, SK, PK, BK⟩ := hrel
    by_cases hlt : (q + 1) * 20 ≤ d.size
    · have hltz : (((q + 1) * 20 : Nat) : Int) ≤ (d.size : Int) := by omega
      have hc := HI.out (q * 20) ((q + 1) * 20) dk _ hsk SK.out (by omega) (by omega)
      rw [hsk] at hc
      have HC := Lib.hid hc; clear hc
      obtain ⟨x, hx⟩ : ∃ x : Nat, q * 20 = x := ⟨_, rfl⟩
      obtain ⟨y, hy⟩ : ∃ y : Nat, (q + 1) * 20 = y := ⟨_, rfl⟩
      rw [hx, hy] at HC
      rw [hy] at hltz hlt
      rw [hx] at hq hg1
      have X := Lib.hid hx; have Y := Lib.hid hy
      have hy2 : y = x + 20 := by omega
      have Y2 := Lib.hid hy2
      have hxy : x + 20 ≤ y := by omega
      rw [hx, hy]
      clear hx hy hy2
      go_wp2_with (go_at_call 36; refine HC.out.mono ?_; rintro e w1 ⟨rfl, d1, S1, H1⟩)
      have hins := insertionSort_holds HSW.out dk x y (by omega) (by omega)
      rw [← H1] at hins
      have S1' := Lib.hid S1; have IN := Lib.hid hins; clear S1 H1 hins
      have hs1 : d1.size = d.size := by rw [IN.out.1.1]; exact hsk
      go_roundg (d.size + 1 - y)
      case measure => omega
      case rel =>
        refine ⟨q + 1, d1, by rw [Y.out], by first | go_num | (congr 1; have := Y.out; omega), by rw [Y.out]; exact hlt, by rw [Y.out]; exact Nat.le_refl _, hs1, S1', Lib.hid (permIn_trans _ _ _ _ _ PK.out (permIn_mono _ _ _ _ _ _ (Nat.zero_le _) hlt (by omega) IN.out.1)), Lib.hid (Blocks.snoc (Blocks.perm BK.out IN.out.1 (by rw [X.out]; exact Nat.le_refl _)) ?_)⟩
        rw [X.out, Y.out, Nat.min_eq_left hlt]
        exact IN.out.2
    · have hltz : ¬ (((q + 1) * 20 : Nat) : Int) ≤ (d.size : Int) := by omega
      have hc := HI.out (q * 20) d.size dk _ hsk SK.out (by omega) (by omega)
      rw [hsk] at hc
      have HC := Lib.hid hc; clear hc
      obtain ⟨x, hx⟩ : ∃ x : Nat, q * 20 = x := ⟨_, rfl⟩
      obtain ⟨y, hy⟩ : ∃ y : Nat, (q + 1) * 20 = y := ⟨_, rfl⟩
      rw [hx] at HC
      rw [hy] at hltz hlt
      rw [hx] at hq hg1
      have X := Lib.hid hx; have Y := Lib.hid hy
      rw [hx, hy]
      clear hx hy
      go_wp2_with (go_at_call 36; refine HC.out.mono ?_; rintro e w1 ⟨rfl, d1, S1, H1⟩)
      have hins := insertionSort_holds HSW.out dk x d.size (by omega) (by omega)
      rw [← H1] at hins
      have hB : ∀ k, SortedIn (ltC cf) (k * 20) (min ((k + 1) * 20) d.size) d1 := fun k => by
        by_cases e : k < q
        · exact Blocks.perm BK.out hins.1 (by rw [X.out]; exact Nat.le_refl _) k e
        · by_cases e2 : k = q
          · subst e2
            rw [X.out, Nat.min_eq_right (by have := Y.out; omega)]; exact hins.2
          · intro p r h1 h2 h3
            have := Y.out
            omega
      have hP : PermIn 0 d.size d d1 := permIn_trans _ _ _ _ _ PK.out (permIn_mono _ _ _ _ _ _ (Nat.zero_le _) (Nat.le_refl _) (by omega) hins.1)
      have S1' := Lib.hid S1; have HB := Lib.hid hB; have HP := Lib.hid hP
      clear S1 H1 hins hB hP SK PK BK HC X Y
      go_loopg [6] (2 * d.size + 40) (fun g2 vs wr => ∃ (s : Nat) (dk : Array Int), vs = .int .i64 s ∧ 0 < s ∧ s ≤ 2 * d.size + 20 ∧ 2 * d.size + 40 - s ≤ g2 ∧ dk.size = d.size ∧ Hid (SRow blk off w0 dk wr) ∧ Hid (PermIn 0 d.size d dk) ∧ Hid (∀ k, SortedIn (ltC cf) (k * s) (min ((k + 1) * s) d.size) dk))
      case atStart => exact ⟨20, d1, rfl, by omega, by omega, by omega, by rw [HP.out.1], S1', HP, HB⟩
      case round =>
        clear S1' HB HP
        obtain ⟨s, dk2, rfl, hs0, hs1, hg2, hsk2, SK, PK, BK⟩ := hrel
        by_cases hlt2 : s < d.size
        · have hltz2 : (s : Int) < (d.size : Int) := by omega
          go_wp2
          go_loopg [7, 8] (d.size + 1) (fun g3 va vb wr => ∃ (q x y : Nat) (dk : Array Int), va = .int .i64 x ∧ vb = .int .i64 y ∧ x + 2 * s ≤ y ∧ y ≤ x + 2 * s ∧ x ≤ d.size ∧ d.size + 1 - x ≤ g3 ∧ Hid (q * (2 * s) = x) ∧ dk.size = d.size ∧ Hid (SRow blk off w0 dk wr) ∧ Hid (PermIn 0 d.size d dk) ∧ Hid (Blocks (ltC cf) (2 * s) d.size q dk) ∧ Hid (∀ k, 2 * q ≤ k → SortedIn (ltC cf) (k * s) (min ((k + 1) * s) d.size) dk))
          case atStart => exact ⟨0, 0, 2 * s, dk2, rfl, by first | go_num | (congr 1; omega), by omega, by omega, by omega, by omega, Lib.hid (by simp), hsk2, SK, PK, Lib.hid (fun k hk => by omega), Lib.hid fun k _ => BK.out k⟩
          case round =>
            clear SK PK BK
            obtain ⟨q2, x2, y2, dk3, rfl, rfl, hy1, hy2, hx2, hg3, HX, hsk3, SK, PK, BK, RK⟩ := hrel
            have r1 := RK.out (2 * q2) (Nat.le_refl _)
            have r2 := RK.out (2 * q2 + 1) (by omega)
            rw [sym_e2, sym_e1, HX.out] at r1
            rw [show 2 * q2 + 1 + 1 = 2 * q2 + 2 from rfl, sym_e3, sym_e2, HX.out] at r2
            have R1 := Lib.hid r1; have R2 := Lib.hid r2; clear r1 r2
            obtain ⟨z, hz⟩ : ∃ z : Nat, (x2 : Int) + (s : Int) = (z : Int) := ⟨x2 + s, by omega⟩
            have hz1 : z = x2 + s := by omega
            have Z := Lib.hid hz1; clear hz1
            have hz2 : x2 < z := by omega
            by_cases hlt3 : y2 ≤ d.size
            · have hltz3 : (y2 : Int) ≤ (d.size : Int) := by omega
              have k1 : SortedIn (ltC cf) x2 z dk3 := by rw [Z.out]; have := R1.out; rwa [Nat.min_eq_left (by omega)] at this
              have k2 : SortedIn (ltC cf) z y2 dk3 := by rw [Z.out]; have := R2.out; rwa [Nat.min_eq_left (by omega), show x2 + 2 * s = y2 by omega] at this
              have hc := HSY.out (y2 - x2 + 1) x2 z y2 dk3 _ (by omega) hz2 (by omega) hlt3 hsk3 SK.out k1 k2
              have HC := Lib.hid hc; clear hc k1 k2
              go_wp2_with (go_at_call 37; refine HC.out.mono ?_; rintro e w2 ⟨rfl, d4, S4, P4, O4⟩)
              have S4' := Lib.hid S4; have P4' := Lib.hid P4; have O4' := Lib.hid O4; clear S4 P4 O4
              have hs4 : d4.size = d.size := by rw [P4'.out.1]; exact hsk3
              have hB4 : Blocks (ltC cf) (2 * s) d.size (q2 + 1) d4 := Blocks.snoc (Blocks.perm BK.out P4'.out (by rw [HX.out]; exact Nat.le_refl _)) (by
                rw [sym_e4, HX.out, Nat.min_eq_left (by omega), show x2 + 2 * s = y2 by omega]; exact O4'.out)
              have hR4 : ∀ k, 2 * (q2 + 1) ≤ k → SortedIn (ltC cf) (k * s) (min ((k + 1) * s) d.size) d4 := fun k hk => by
                refine sorted_congr (RK.out k (by omega)) fun t h1 h2 => P4'.out.2.1 t (.inr ?_)
                have h3 : (2 * q2 + 2) * s ≤ k * s := Nat.mul_le_mul_right s (by omega)
                rw [sym_e3, HX.out] at h3
                omega
              have HB4 := Lib.hid hB4; have HR4 := Lib.hid hR4; clear hB4 hR4
              have hX4 : (q2 + 1) * (2 * s) = y2 := by rw [sym_e4, HX.out]; omega
              have HX4 := Lib.hid hX4; clear hX4
              go_roundg (d.size + 1 - y2)
              case measure => omega
              case rel => exact ⟨q2 + 1, y2, y2 + 2 * s, d4, rfl, by first | go_num | (congr 1; omega), by omega, by omega, hlt3, Nat.le_refl _, HX4, hs4, S4', Lib.hid (permIn_trans _ _ _ _ _ PK.out (permIn_mono _ _ _ _ _ _ (Nat.zero_le _) hlt3 (by omega) P4'.out)), HB4, HR4⟩
            · have hltz3 : ¬ (y2 : Int) ≤ (d.size : Int) := by omega
              by_cases hlt4 : z < d.size
              · have hltz4 : (z : Int) < (d.size : Int) := by omega
                have k1 : SortedIn (ltC cf) x2 z dk3 := by rw [Z.out]; have := R1.out; rwa [Nat.min_eq_left (by have := Z.out; omega)] at this
                have k2 : SortedIn (ltC cf) z d.size dk3 := by rw [Z.out]; have := R2.out; rwa [Nat.min_eq_right (by omega)] at this
                have hc := HSY.out (d.size - x2 + 1) x2 z d.size dk3 _ (by omega) hz2 hlt4 (Nat.le_refl _) hsk3 SK.out k1 k2
                have HC := Lib.hid hc; clear hc k1 k2
                go_wp2_with (go_at_call 37; refine HC.out.mono ?_; rintro e w2 ⟨rfl, d4, S4, P4, O4⟩)
                have S4' := Lib.hid S4; have P4' := Lib.hid P4; have O4' := Lib.hid O4; clear S4 P4 O4
                have hs4 : d4.size = d.size := by rw [P4'.out.1]; exact hsk3
                have hB4 : ∀ k, SortedIn (ltC cf) (k * (2 * s)) (min ((k + 1) * (2 * s)) d.size) d4 := fun k => by
                  by_cases e : k < q2
                  · exact Blocks.perm BK.out P4'.out (by rw [HX.out]; exact Nat.le_refl _) k e
                  · by_cases e2 : k = q2
                    · subst e2
                      rw [sym_e4, HX.out, Nat.min_eq_right (by omega)]; exact O4'.out
                    · intro p r h1 h2 h3
                      have h4 : (q2 + 1) * (2 * s) ≤ k * (2 * s) := Nat.mul_le_mul_right _ (by omega)
                      rw [sym_e4, HX.out] at h4
                      omega
                have HB4 := Lib.hid hB4; clear hB4
                go_roundg (2 * d.size + 40 - 2 * s)
                case measure => omega
                case rel => exact ⟨2 * s, d4, by first | go_num | (congr 1; omega), by omega, by omega, Nat.le_refl _, hs4, S4', Lib.hid (permIn_trans _ _ _ _ _ PK.out (permIn_mono _ _ _ _ _ _ (Nat.zero_le _) (Nat.le_refl _) (by omega) P4'.out)), HB4⟩
              · have hltz4 : ¬ (z : Int) < (d.size : Int) := by omega
                have hB4 : ∀ k, SortedIn (ltC cf) (k * (2 * s)) (min ((k + 1) * (2 * s)) d.size) dk3 := fun k => by
                  by_cases e : k < q2
                  · exact BK.out k e
                  · by_cases e2 : k = q2
                    · subst e2
                      have := R1.out
                      rw [Nat.min_eq_right (by have := Z.out; omega)] at this
                      rw [sym_e4, HX.out, Nat.min_eq_right (by omega)]; exact this
                    · intro p r h1 h2 h3
                      have h4 : (q2 + 1) * (2 * s) ≤ k * (2 * s) := Nat.mul_le_mul_right _ (by omega)
                      rw [sym_e4, HX.out] at h4
                      omega
                have HB4 := Lib.hid hB4; clear hB4
                go_wp2
                go_roundg (2 * d.size + 40 - 2 * s)
                case measure => omega
                case rel => exact ⟨2 * s, dk3, by first | go_num | (congr 1; omega), by omega, by omega, Nat.le_refl _, hsk3, SK, PK, HB4⟩
        · have hltz2 : ¬ (s : Int) < (d.size : Int) := by omega
          go_wp2
          go_end0
          refine ⟨rfl, dk2, SK.out, PK.out, ?_⟩
          have := BK.out 0
          rwa [Nat.zero_mul, Nat.zero_add, Nat.one_mul, Nat.min_eq_right (by omega)] at this
theorem sort_any (blk off cap : Nat) (d : Array Int) (w : World) (hcell : ∀ j, j < d.size → w.cell? ⟨blk, off + j, none⟩ = some (.int .u16 d[j]!)) (hfro : ∀ j, j < d.size → w.frozen? ⟨blk, off + j, none⟩ = false) (hblk : blk < w.heap.size) (h0 : 0 < d.size) (hsz : d.size < 1048576) :
    Calls Try.prog 27 #[.slice (some ⟨blk, off, none⟩) d.size cap] w (SortedPost blk off d[0]! d w) :=
  sort_of blk off cap d w hcell hfro hblk h0 (by omega) fun cb w1 hc hS => stable_any blk off cap cb _ d w1 w1 (Ser.by_swo _) hc hS hsz
end Go.Proofs.Ythmnkccmnajfgaa

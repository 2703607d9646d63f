
/-
  rtp.Same, whole; IsRTCP.
-/
import Derived.Test.YtkoldfoliigifaaRtpSame
import Derived.Test.YtkoldfoliigifaaRtpField
namespace Go.Proofs.Ytkoldfoliigifaa
open Go.RowKit Go.Shelf
set_option linter.unusedVariables false
def pkEq (p q : Pk) : Bool := (p.marker == q.marker) && ((p.pt == q.pt) && ((p.seq == q.seq) && ((p.ts == q.ts) && ((p.ssrc == q.ssrc) && (decide (p.csrc = q.csrc) && ((p.hasExt == q.hasExt) && ((p.profile == q.profile) && (decide (p.ext = q.ext) && (decide (p.payload = q.payload) && decide (p.pad = q.pad))))))))))
theorem pkEq_self (p : Pk) : pkEq p p = true := by simp [pkEq]
theorem pkEq_iff (p q : Pk) : pkEq p q = true ↔ p = q := by
  obtain ⟨m, pt, sq, ts, ss, cs, h, pr, ex, py, pd⟩ := p
  obtain ⟨m2, pt2, sq2, ts2, ss2, cs2, h2, pr2, ex2, py2, pd2⟩ := q
  simp [pkEq]
theorem drawn_of {v : Value} {w : World} {e : Ending} {w' : World} (h : SameV v w e w') : Drawn v w e w' := by
  obtain ⟨rfl, rfl⟩ := h; exact ⟨rfl, 0, rfl⟩
theorem same5_any (p q : Pk) (s t : Pl) (w : World) (hp : PkAt w p s) (hq : PkAt w q t) (hs : Sm s) (ht : Sm t) :
    Calls Try.prog 11 #[.agg (pkc p s), .agg (pkc q t)] w (ValB (.bool (pkEq p q)) w) := by
  have hb : ∀ o o' j, Below w.heap.size w (((w.alloc o).alloc o').drewN j) := fun o o' j => (((Below.refl _ w).alloc (Nat.le_refl _) _).alloc (by simp) _).trans (below_drewN _ _ _)
  obtain ⟨z1, z2, z3, z4⟩ := hs
  obtain ⟨y1, y2, y3, y4⟩ := ht
  have HC := fun o o' j => sequal_any s.ac t.ac s.nc t.nc s.cc t.cc _ _ _ (hp.csrc.below (hb o o' j)) (hq.csrc.below (hb o o' j)) (by omega) (by omega)
  have HE := fun o o' j => (bequal_any s.ae t.ae s.ne t.ne s.ce t.ce _ _ _ (hp.ext.below (hb o o' j)) (hq.ext.below (hb o o' j))).mono fun _ _ h => drawn_of h
  have HP := fun o o' j => (bequal_any s.ap t.ap s.np t.np s.cp t.cp _ _ _ (hp.pay.below (hb o o' j)) (hq.pay.below (hb o o' j))).mono fun _ _ h => drawn_of h
  have HD := fun o o' j => (bequal_any s.ad t.ad s.nd t.nd s.cd t.cd _ _ _ (hp.pad.below (hb o o' j)) (hq.pad.below (hb o o' j))).mono fun _ _ h => drawn_of h
  exact same5_core p.marker p.hasExt q.marker q.hasExt p.pt p.seq p.ts p.ssrc p.profile q.pt q.seq q.ts q.ssrc q.profile s.ac s.ae s.ap s.ad t.ac t.ae t.ap t.ad s.nc s.cc s.ne s.ce s.np s.cp s.nd s.cd t.nc t.cc t.ne t.ce t.np t.cp t.nd t.cd _ _ _ _ w (Lib.hid fun j => HC _ _ j) (Lib.hid fun j => HE _ _ j) (Lib.hid fun j => HP _ _ j) (Lib.hid fun j => HD _ _ j)
set_option maxHeartbeats 1000000 in
set_option maxRecDepth 100000 in
theorem isrtcp_any (a : Option Addr) (n c : Nat) (l : List Int) (w : World) (hb : BAt w a n l) (hn : 2 ≤ n) (b : Bool) (hbb : ((l.getD 0 0 / 64 == 2) && (decide (192 ≤ l.getD 1 0) && decide (l.getD 1 0 ≤ 223))) = b) :
    Calls Try.prog 18 #[.slice a n c] w (SameV (.bool b) w) := by
  obtain ⟨bl, o, hr⟩ := hb.row
  have hlim := hb.lim
  obtain ⟨rfl, _, d0, x0, x0'⟩ := hr 0 (by omega)
  obtain ⟨_, _, d1, x1, x1'⟩ := hr 1 (by omega)
  subst hbb
  clear hr hb
  rw [Nat.add_zero] at d0
  generalize l.getD 0 0 = x at *
  generalize l.getD 1 0 = y at *
  have h2 : (2 : Int) ≤ (n : Int) := by omega
  have h0 : (0 : Int) < (n : Int) := by omega
  have h1 : (1 : Int) < (n : Int) := by omega
  by_cases e1 : x / 64 = 2
  · have e1' : (x / 64 == 2) = true := by simpa using e1
    by_cases e2 : 192 ≤ y
    · by_cases e3 : y ≤ 223
      · go_enter Try.func18, Try.ntmps18
        go_wp2

        go_ret
        exact ⟨by first | (simp [*]; done) | (simp [*]; omega), rfl⟩
      · go_enter Try.func18, Try.ntmps18
        go_wp2
        go_ret
        exact ⟨by first | (simp [*]; done) | (simp [*]; omega), rfl⟩
    · go_enter Try.func18, Try.ntmps18
      go_wp2
      go_ret
      exact ⟨by first | (simp [*]; done) | (simp [*]; omega), rfl⟩
  · have e1' : (x / 64 == 2) = false := by simpa using e1
    go_enter Try.func18, Try.ntmps18
    go_wp2
    go_ret
    exact ⟨by first | (simp [*]; done) | (simp [*]; omega), rfl⟩
end Go.Proofs.Ytkoldfoliigifaa


/-
  confluxref05.Same.
-/
import Derived.Test.YtkoldfoliigifaaRtpSame2
namespace Go.Proofs.Ytkoldfoliigifaa
open Go.RowKit Go.Shelf
set_option linter.unusedVariables false
set_option maxHeartbeats 4000000 in
set_option maxRecDepth 100000 in
theorem rsame5_core (m h m2 h2 : Bool) (pt sq ts ss pr pt2 sq2 ts2 ss2 pr2 : Int) (ac ae ap ad ac2 ae2 ap2 ad2 : Option Addr) (nc cc ne ce np cp nd cd nc2 cc2 ne2 ce2 np2 cp2 nd2 cd2 : Nat) (bC bE bP bD : Bool) (w : World)
    (HC : Hid (∀ j, Calls Try.prog 26 #[.slice ac nc cc, .slice ac2 nc2 cc2] (((w.alloc (.cells #[.bool m, .int .i64 pt, .int .u16 sq, .int .u32 ts, .int .u32 ss, .slice ac nc cc, .bool h, .int .u16 pr, .slice ae ne ce, .slice ap np cp, .slice ad nd cd] 27)).alloc (.cells #[.bool m2, .int .i64 pt2, .int .u16 sq2, .int .u32 ts2, .int .u32 ss2, .slice ac2 nc2 cc2, .bool h2, .int .u16 pr2, .slice ae2 ne2 ce2, .slice ap2 np2 cp2, .slice ad2 nd2 cd2] 27)).drewN j) (Drawn (.bool bC) (((w.alloc (.cells #[.bool m, .int .i64 pt, .int .u16 sq, .int .u32 ts, .int .u32 ss, .slice ac nc cc, .bool h, .int .u16 pr, .slice ae ne ce, .slice ap np cp, .slice ad nd cd] 27)).alloc (.cells #[.bool m2, .int .i64 pt2, .int .u16 sq2, .int .u32 ts2, .int .u32 ss2, .slice ac2 nc2 cc2, .bool h2, .int .u16 pr2, .slice ae2 ne2 ce2, .slice ap2 np2 cp2, .slice ad2 nd2 cd2] 27)).drewN j))))
    (HE : Hid (∀ j, Calls Try.prog 8 #[.slice ae ne ce, .slice ae2 ne2 ce2] (((w.alloc (.cells #[.bool m, .int .i64 pt, .int .u16 sq, .int .u32 ts, .int .u32 ss, .slice ac nc cc, .bool h, .int .u16 pr, .slice ae ne ce, .slice ap np cp, .slice ad nd cd] 27)).alloc (.cells #[.bool m2, .int .i64 pt2, .int .u16 sq2, .int .u32 ts2, .int .u32 ss2, .slice ac2 nc2 cc2, .bool h2, .int .u16 pr2, .slice ae2 ne2 ce2, .slice ap2 np2 cp2, .slice ad2 nd2 cd2] 27)).drewN j) (Drawn (.bool bE) (((w.alloc (.cells #[.bool m, .int .i64 pt, .int .u16 sq, .int .u32 ts, .int .u32 ss, .slice ac nc cc, .bool h, .int .u16 pr, .slice ae ne ce, .slice ap np cp, .slice ad nd cd] 27)).alloc (.cells #[.bool m2, .int .i64 pt2, .int .u16 sq2, .int .u32 ts2, .int .u32 ss2, .slice ac2 nc2 cc2, .bool h2, .int .u16 pr2, .slice ae2 ne2 ce2, .slice ap2 np2 cp2, .slice ad2 nd2 cd2] 27)).drewN j))))
    (HP : Hid (∀ j, Calls Try.prog 8 #[.slice ap np cp, .slice ap2 np2 cp2] (((w.alloc (.cells #[.bool m, .int .i64 pt, .int .u16 sq, .int .u32 ts, .int .u32 ss, .slice ac nc cc, .bool h, .int .u16 pr, .slice ae ne ce, .slice ap np cp, .slice ad nd cd] 27)).alloc (.cells #[.bool m2, .int .i64 pt2, .int .u16 sq2, .int .u32 ts2, .int .u32 ss2, .slice ac2 nc2 cc2, .bool h2, .int .u16 pr2, .slice ae2 ne2 ce2, .slice ap2 np2 cp2, .slice ad2 nd2 cd2] 27)).drewN j) (Drawn (.bool bP) (((w.alloc (.cells #[.bool m, .int .i64 pt, .int .u16 sq, .int .u32 ts, .int .u32 ss, .slice ac nc cc, .bool h, .int .u16 pr, .slice ae ne ce, .slice ap np cp, .slice ad nd cd] 27)).alloc (.cells #[.bool m2, .int .i64 pt2, .int .u16 sq2, .int .u32 ts2, .int .u32 ss2, .slice ac2 nc2 cc2, .bool h2, .int .u16 pr2, .slice ae2 ne2 ce2, .slice ap2 np2 cp2, .slice ad2 nd2 cd2] 27)).drewN j))))
    (HD : Hid (∀ j, Calls Try.prog 8 #[.slice ad nd cd, .slice ad2 nd2 cd2] (((w.alloc (.cells #[.bool m, .int .i64 pt, .int .u16 sq, .int .u32 ts, .int .u32 ss, .slice ac nc cc, .bool h, .int .u16 pr, .slice ae ne ce, .slice ap np cp, .slice ad nd cd] 27)).alloc (.cells #[.bool m2, .int .i64 pt2, .int .u16 sq2, .int .u32 ts2, .int .u32 ss2, .slice ac2 nc2 cc2, .bool h2, .int .u16 pr2, .slice ae2 ne2 ce2, .slice ap2 np2 cp2, .slice ad2 nd2 cd2] 27)).drewN j) (Drawn (.bool bD) (((w.alloc (.cells #[.bool m, .int .i64 pt, .int .u16 sq, .int .u32 ts, .int .u32 ss, .slice ac nc cc, .bool h, .int .u16 pr, .slice ae ne ce, .slice ap np cp, .slice ad nd cd] 27)).alloc (.cells #[.bool m2, .int .i64 pt2, .int .u16 sq2, .int .u32 ts2, .int .u32 ss2, .slice ac2 nc2 cc2, .bool h2, .int .u16 pr2, .slice ae2 ne2 ce2, .slice ap2 np2 cp2, .slice ad2 nd2 cd2] 27)).drewN j))))
    : Calls Try.prog 12 #[.agg #[.bool m, .int .i64 pt, .int .u16 sq, .int .u32 ts, .int .u32 ss, .slice ac nc cc, .bool h, .int .u16 pr, .slice ae ne ce, .slice ap np cp, .slice ad nd cd], .agg #[.bool m2, .int .i64 pt2, .int .u16 sq2, .int .u32 ts2, .int .u32 ss2, .slice ac2 nc2 cc2, .bool h2, .int .u16 pr2, .slice ae2 ne2 ce2, .slice ap2 np2 cp2, .slice ad2 nd2 cd2]] w (ValB (.bool ((m == m2) && ((pt == pt2) && ((sq == sq2) && ((ts == ts2) && ((ss == ss2) && ((h == h2) && ((pr == pr2) && (bC && (bE && (bP && bD))))))))))) w) := by
  cases em : (m == m2)
  · skip
    go_enter Try.func12, Try.ntmps12
    go_wp2
    go_ret
    exact ⟨by first | rfl | simp [*], ((Below.refl _ w).alloc (Nat.le_refl _) _).alloc (by simp) _⟩
  · skip
    cases ept : (pt == pt2)
    · skip
      go_enter Try.func12, Try.ntmps12
      go_wp2
      go_ret
      exact ⟨by first | rfl | simp [*], ((Below.refl _ w).alloc (Nat.le_refl _) _).alloc (by simp) _⟩
    · skip
      cases esq : (sq == sq2)
      · skip
        go_enter Try.func12, Try.ntmps12
        go_wp2
        go_ret
        exact ⟨by first | rfl | simp [*], ((Below.refl _ w).alloc (Nat.le_refl _) _).alloc (by simp) _⟩
      · skip
        cases ets : (ts == ts2)
        · skip
          go_enter Try.func12, Try.ntmps12
          go_wp2
          go_ret
          exact ⟨by first | rfl | simp [*], ((Below.refl _ w).alloc (Nat.le_refl _) _).alloc (by simp) _⟩
        · skip
          cases ess : (ss == ss2)
          · skip
            go_enter Try.func12, Try.ntmps12
            go_wp2
            go_ret
            exact ⟨by first | rfl | simp [*], ((Below.refl _ w).alloc (Nat.le_refl _) _).alloc (by simp) _⟩
          · skip
            cases eh : (h == h2)
            · skip
              go_enter Try.func12, Try.ntmps12
              go_wp2
              go_ret
              exact ⟨by first | rfl | simp [*], ((Below.refl _ w).alloc (Nat.le_refl _) _).alloc (by simp) _⟩
            · skip
              cases epr : (pr == pr2)
              · skip
                go_enter Try.func12, Try.ntmps12
                go_wp2
                go_ret
                exact ⟨by first | rfl | simp [*], ((Below.refl _ w).alloc (Nat.le_refl _) _).alloc (by simp) _⟩
              · skip
                cases bC
                · skip
                  go_enter Try.func12, Try.ntmps12
                  go_wp2_with fail
                  refine (HC.out (0)).mono ?_
                  rintro e v0 ⟨rfl, j0, rfl⟩
                  go_wp2
                  go_ret
                  exact ⟨by first | rfl | simp [*], (((Below.refl _ w).alloc (Nat.le_refl _) _).alloc (by simp) _).trans (below_drewN _ _ _)⟩
                · skip
                  cases bE
                  · skip
                    go_enter Try.func12, Try.ntmps12
                    go_wp2_with fail
                    refine (HC.out (0)).mono ?_
                    rintro e v0 ⟨rfl, j0, rfl⟩
                    go_wp2_with fail
                    refine (HE.out (j0)).mono ?_
                    rintro e v1 ⟨rfl, j1, rfl⟩
                    rw [World.drewN_drewN]
                    go_wp2
                    go_ret
                    exact ⟨by first | rfl | simp [*], (((Below.refl _ w).alloc (Nat.le_refl _) _).alloc (by simp) _).trans (below_drewN _ _ _)⟩
                  · skip
                    cases bP
                    · skip
                      go_enter Try.func12, Try.ntmps12
                      go_wp2_with fail
                      refine (HC.out (0)).mono ?_
                      rintro e v0 ⟨rfl, j0, rfl⟩
                      go_wp2_with fail
                      refine (HE.out (j0)).mono ?_
                      rintro e v1 ⟨rfl, j1, rfl⟩
                      rw [World.drewN_drewN]
                      go_wp2_with fail
                      refine (HP.out (j0 + j1)).mono ?_
                      rintro e v2 ⟨rfl, j2, rfl⟩
                      rw [World.drewN_drewN]
                      go_wp2
                      go_ret
                      exact ⟨by first | rfl | simp [*], (((Below.refl _ w).alloc (Nat.le_refl _) _).alloc (by simp) _).trans (below_drewN _ _ _)⟩
                    · skip
                      cases bD
                      · skip
                        go_enter Try.func12, Try.ntmps12
                        go_wp2_with fail
                        refine (HC.out (0)).mono ?_
                        rintro e v0 ⟨rfl, j0, rfl⟩
                        go_wp2_with fail
                        refine (HE.out (j0)).mono ?_
                        rintro e v1 ⟨rfl, j1, rfl⟩
                        rw [World.drewN_drewN]
                        go_wp2_with fail
                        refine (HP.out (j0 + j1)).mono ?_
                        rintro e v2 ⟨rfl, j2, rfl⟩
                        rw [World.drewN_drewN]
                        go_wp2_with fail
                        refine (HD.out (j0 + j1 + j2)).mono ?_
                        rintro e v3 ⟨rfl, j3, rfl⟩
                        rw [World.drewN_drewN]
                        go_wp2
                        go_ret
                        exact ⟨by first | rfl | simp [*], (((Below.refl _ w).alloc (Nat.le_refl _) _).alloc (by simp) _).trans (below_drewN _ _ _)⟩
                      · skip
                        go_enter Try.func12, Try.ntmps12
                        go_wp2_with fail
                        refine (HC.out (0)).mono ?_
                        rintro e v0 ⟨rfl, j0, rfl⟩
                        go_wp2_with fail
                        refine (HE.out (j0)).mono ?_
                        rintro e v1 ⟨rfl, j1, rfl⟩
                        rw [World.drewN_drewN]
                        go_wp2_with fail
                        refine (HP.out (j0 + j1)).mono ?_
                        rintro e v2 ⟨rfl, j2, rfl⟩
                        rw [World.drewN_drewN]
                        go_wp2_with fail
                        refine (HD.out (j0 + j1 + j2)).mono ?_
                        rintro e v3 ⟨rfl, j3, rfl⟩
                        rw [World.drewN_drewN]
                        go_wp2
                        go_ret
                        exact ⟨by first | rfl | simp [*], (((Below.refl _ w).alloc (Nat.le_refl _) _).alloc (by simp) _).trans (below_drewN _ _ _)⟩
theorem rsame5_any (p q : Pk) (s t : Pl) (w : World) (hp : PkAt w p s) (hq : PkAt w q t) (hs : Sm s) (ht : Sm t) :
    Calls Try.prog 12 #[.agg (pkc p s), .agg (pkc q t)] w (ValB (.bool (pkEq p q)) w) := by
  have hb : ∀ o o' j, Below w.heap.size w (((w.alloc o).alloc o').drewN j) := fun o o' j => (((Below.refl _ w).alloc (Nat.le_refl _) _).alloc (by simp) _).trans (below_drewN _ _ _)
  obtain ⟨z1, z2, z3, z4⟩ := hs
  obtain ⟨y1, y2, y3, y4⟩ := ht
  have HC := fun o o' j => words_any s.ac t.ac s.nc t.nc s.cc t.cc _ _ _ (hp.csrc.below (hb o o' j)) (hq.csrc.below (hb o o' j)) (by omega) (by omega)
  have HE := fun o o' j => same_any s.ae t.ae s.ne t.ne s.ce t.ce _ _ _ (hp.ext.below (hb o o' j)) (hq.ext.below (hb o o' j))
  have HP := fun o o' j => same_any s.ap t.ap s.np t.np s.cp t.cp _ _ _ (hp.pay.below (hb o o' j)) (hq.pay.below (hb o o' j))
  have HD := fun o o' j => same_any s.ad t.ad s.nd t.nd s.cd t.cd _ _ _ (hp.pad.below (hb o o' j)) (hq.pad.below (hb o o' j))
  have := rsame5_core p.marker p.hasExt q.marker q.hasExt p.pt p.seq p.ts p.ssrc p.profile q.pt q.seq q.ts q.ssrc q.profile s.ac s.ae s.ap s.ad t.ac t.ae t.ap t.ad s.nc s.cc s.ne s.ce s.np s.cp s.nd s.cd t.nc t.cc t.ne t.ce t.np t.cp t.nd t.cd _ _ _ _ w (Lib.hid fun j => HC _ _ j) (Lib.hid fun j => HE _ _ j) (Lib.hid fun j => HP _ _ j) (Lib.hid fun j => HD _ _ j)
  refine this.mono fun e w' h => ⟨h.1.trans ?_, h.2⟩
  have e : ((p.marker == q.marker) && ((p.pt == q.pt) && ((p.seq == q.seq) && ((p.ts == q.ts) && ((p.ssrc == q.ssrc) && ((p.hasExt == q.hasExt) && ((p.profile == q.profile) && (decide (p.csrc = q.csrc) && (decide (p.ext = q.ext) && (decide (p.payload = q.payload) && decide (p.pad = q.pad))))))))))) = pkEq p q := by
    unfold pkEq
    cases (p.marker == q.marker) <;> cases (p.hasExt == q.hasExt) <;> cases (p.profile == q.profile) <;> cases decide (p.csrc = q.csrc) <;> simp
  rw [e]
end Go.Proofs.Ytkoldfoliigifaa

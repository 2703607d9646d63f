
/-
  rtp.Same and the reference's; Clone.
-/
import Derived.Test.YtkoldfoliigifaaRtpWrite
namespace Go.Proofs.Ytkoldfoliigifaa
open Go.RowKit Go.Shelf
set_option linter.unusedVariables false
theorem words_any (a1 a2 : Option Addr) (n m c1 c2 : Nat) (l1 l2 : List Int) (w : World) (h1 : LgAt w a1 n l1) (h2 : LgAt w a2 m l2) (z1 : n ≤ 9223372036854775807) (z2 : m ≤ 9223372036854775807) :
    Calls Try.prog 26 #[.slice a1 n c1, .slice a2 m c2] w (Drawn (.bool (decide (l1 = l2))) w) := by
  have e1 := h1.1; have e2 := h2.1
  obtain ⟨g1, o1, r1⟩ := h1.2
  obtain ⟨g2, o2, r2⟩ := h2.2
  have E1 := Lib.hid e1; have E2 := Lib.hid e2; have H1 := Lib.hid r1; have H2 := Lib.hid r2
  clear e1 e2 r1 r2 h1 h2
  by_cases hnm : n = m
  · subst hnm
    have hne : ((n : Int) != (n : Int)) = false := by simp
    go_enter Try.func26, Try.ntmps26
    go_wp2
    go_loopw [5] (fun i wr => ∃ (k m : Nat), k ≤ n ∧ i = .int .i64 k ∧ Hid (wr = w.drewN m ∧ ∀ j, j < k → l1.getD j 0 = l2.getD j 0)) (fun i _ => n - (intOf i).toNat)
    case atStart => exact ⟨0, 0, Nat.zero_le _, rfl, Lib.hid ⟨rfl, fun j hj => by omega⟩⟩
    case round =>
      obtain ⟨k, m, hk, rfl, HW⟩ := hrel
      by_cases hlt : k < n
      · have hltz : (k : Int) < (n : Int) := by omega
        obtain ⟨rfl, _, d1, _⟩ := H1.out k hlt
        obtain ⟨rfl, _, d2, _⟩ := H2.out k hlt
        have d1 : wr.cell? ⟨g1, o1 + k, none⟩ = some (.int .u32 (l1.getD k 0)) := by rw [HW.out.1]; exact d1
        have d2 : wr.cell? ⟨g2, o2 + k, none⟩ = some (.int .u32 (l2.getD k 0)) := by rw [HW.out.1]; exact d2
        by_cases hx : l1.getD k 0 = l2.getD k 0
        · have HE' : Hid (∀ j, j < k + 1 → l1.getD j 0 = l2.getD j 0) := Lib.hid fun j hj => by
            by_cases e : j = k
            · subst e; exact hx
            · exact HW.out.2 j (by omega)
          have hbn : (l1.getD k 0 != l2.getD k 0) = false := by rw [hx]; simp
          clear hx
          generalize l1.getD k 0 = x at d1 hbn
          generalize l2.getD k 0 = y at d2 hbn
          go_wp2_with fail
          go_quiet (fail)
          go_wp2
          go_roundw
          case rel => exact ⟨k + 1, m + nq, by omega, by go_num, Lib.hid ⟨by rw [HW.out.1, World.drewN_drewN], HE'.out⟩⟩
          case measure => simp [intOf]; omega
        · have hd : decide (l1 = l2) = false := decide_eq_false fun e => hx (by rw [e])
          have HD := Lib.hid hd
          have hbn : (l1.getD k 0 != l2.getD k 0) = true := by simpa using hx
          clear hx hd
          generalize l1.getD k 0 = x at d1 hbn
          generalize l2.getD k 0 = y at d2 hbn
          go_wp2_with fail
          go_quiet (fail)
          go_wp2
          go_ret
          exact ⟨by rw [HD.out] <;> rfl, m + nq, by rw [HW.out.1, World.drewN_drewN]⟩
      · have hltz : ¬ (k : Int) < (n : Int) := by omega
        have hd : decide (l1 = l2) = true := decide_eq_true (getD_ext (by rw [E1.out, E2.out]) fun i hi => HW.out.2 i (by have := E1.out; omega))
        have HD := Lib.hid hd; clear hd
        go_wp2
        go_ret
        exact ⟨by rw [HD.out] <;> rfl, m, HW.out.1⟩
  · have hne : ((n : Int) != (m : Int)) = true := by rw [bne_iff_ne]; omega
    have hd : decide (l1 = l2) = false := decide_eq_false fun e => hnm (by rw [← E1.out, ← E2.out, e])
    have HD := Lib.hid hd; clear hd
    go_enter Try.func26, Try.ntmps26
    go_wp2
    go_ret
    exact ⟨by rw [HD.out] <;> rfl, 0, rfl⟩
theorem sequal_any (a1 a2 : Option Addr) (n m c1 c2 : Nat) (l1 l2 : List Int) (w : World) (h1 : LgAt w a1 n l1) (h2 : LgAt w a2 m l2) (z1 : n ≤ 9223372036854775807) (z2 : m ≤ 9223372036854775807) :
    Calls Try.prog 24 #[.slice a1 n c1, .slice a2 m c2] w (Drawn (.bool (decide (l1 = l2))) w) := by
  have e1 := h1.1; have e2 := h2.1
  obtain ⟨g1, o1, r1⟩ := h1.2
  obtain ⟨g2, o2, r2⟩ := h2.2
  have E1 := Lib.hid e1; have E2 := Lib.hid e2; have H1 := Lib.hid r1; have H2 := Lib.hid r2
  clear e1 e2 r1 r2 h1 h2
  by_cases hnm : n = m
  · subst hnm
    have hne : ((n : Int) != (n : Int)) = false := by simp
    go_enter Try.func24, Try.ntmps24
    go_wp2
    go_loopw [13] (fun i wr => ∃ (k m : Nat), k ≤ n ∧ i = .int .i64 k ∧ Hid (wr = w.drewN m ∧ ∀ j, j < k → l1.getD j 0 = l2.getD j 0)) (fun i _ => n - (intOf i).toNat)
    case atStart => exact ⟨0, 0, Nat.zero_le _, rfl, Lib.hid ⟨rfl, fun j hj => by omega⟩⟩
    case round =>
      obtain ⟨k, m, hk, rfl, HW⟩ := hrel
      by_cases hlt : k < n
      · have hltz : (k : Int) < (n : Int) := by omega
        obtain ⟨rfl, _, d1, _⟩ := H1.out k hlt
        obtain ⟨rfl, _, d2, _⟩ := H2.out k hlt
        have d1 : wr.cell? ⟨g1, o1 + k, none⟩ = some (.int .u32 (l1.getD k 0)) := by rw [HW.out.1]; exact d1
        have d2 : wr.cell? ⟨g2, o2 + k, none⟩ = some (.int .u32 (l2.getD k 0)) := by rw [HW.out.1]; exact d2
        by_cases hx : l1.getD k 0 = l2.getD k 0
        · have HE' : Hid (∀ j, j < k + 1 → l1.getD j 0 = l2.getD j 0) := Lib.hid fun j hj => by
            by_cases e : j = k
            · subst e; exact hx
            · exact HW.out.2 j (by omega)
          have hbn : (l1.getD k 0 != l2.getD k 0) = false := by rw [hx]; simp
          clear hx
          generalize l1.getD k 0 = x at d1 hbn
          generalize l2.getD k 0 = y at d2 hbn
          go_wp2_with fail
          go_quiet (fail)
          go_wp2
          go_roundw
          case rel => exact ⟨k + 1, m + nq, by omega, by go_num, Lib.hid ⟨by rw [HW.out.1, World.drewN_drewN], HE'.out⟩⟩
          case measure => simp [intOf]; omega
        · have hd : decide (l1 = l2) = false := decide_eq_false fun e => hx (by rw [e])
          have HD := Lib.hid hd
          have hbn : (l1.getD k 0 != l2.getD k 0) = true := by simpa using hx
          clear hx hd
          generalize l1.getD k 0 = x at d1 hbn
          generalize l2.getD k 0 = y at d2 hbn
          go_wp2_with fail
          go_quiet (fail)
          go_wp2
          go_ret
          exact ⟨by rw [HD.out] <;> rfl, m + nq, by rw [HW.out.1, World.drewN_drewN]⟩
      · have hltz : ¬ (k : Int) < (n : Int) := by omega
        have hd : decide (l1 = l2) = true := decide_eq_true (getD_ext (by rw [E1.out, E2.out]) fun i hi => HW.out.2 i (by have := E1.out; omega))
        have HD := Lib.hid hd; clear hd
        go_wp2
        go_ret
        exact ⟨by rw [HD.out] <;> rfl, m, HW.out.1⟩
  · have hne : ((n : Int) != (m : Int)) = true := by rw [bne_iff_ne]; omega
    have hd : decide (l1 = l2) = false := decide_eq_false fun e => hnm (by rw [← E1.out, ← E2.out, e])
    have HD := Lib.hid hd; clear hd
    go_enter Try.func24, Try.ntmps24
    go_wp2
    go_ret
    exact ⟨by rw [HD.out] <;> rfl, 0, rfl⟩
theorem bytesOf_data (l : List Int) : ∀ r : ByteArray, (l.foldl (fun r n => r.push (UInt8.ofNat n.toNat)) r).data.toList = r.data.toList ++ l.map (fun n => UInt8.ofNat n.toNat) := by
  induction l with
  | nil => intro r; simp
  | cons a l ih => intro r; rw [List.foldl_cons, ih]; simp [ByteArray.push]
theorem bytesOf_inj {l1 l2 : List Int} (h1 : Str.Ok l1) (h2 : Str.Ok l2) (h : bytesOf l1 = bytesOf l2) : l1 = l2 := by
  have e : l1.map (fun n => UInt8.ofNat n.toNat) = l2.map (fun n => UInt8.ofNat n.toNat) := by
    have d1 := bytesOf_data l1 ByteArray.empty
    have d2 := bytesOf_data l2 ByteArray.empty
    unfold bytesOf at h
    rw [h] at d1
    rw [d1] at d2
    simpa using d2
  have hl : l1.length = l2.length := by simpa using congrArg List.length e
  refine getD_ext hl fun i hi => ?_
  have hi2 : i < l2.length := by omega
  have := congrArg (fun x => x[i]?) e
  simp [List.getElem?_map, List.getElem?_eq_getElem hi, List.getElem?_eq_getElem hi2] at this
  have b1 := h1 i; have b2 := h2 i
  rw [List.getD_eq_getElem?_getD, List.getElem?_eq_getElem hi] at b1 ⊢
  rw [List.getD_eq_getElem?_getD, List.getElem?_eq_getElem hi2] at b2 ⊢
  simp at b1 b2 ⊢
  have h3 := congrArg UInt8.toNat this
  simp at h3
  omega
set_option maxRecDepth 100000 in
theorem bequal_any (a1 a2 : Option Addr) (n m c1 c2 : Nat) (l1 l2 : List Int) (w : World) (h1 : BAt w a1 n l1) (h2 : BAt w a2 m l2) :
    Calls Try.prog 25 #[.slice a1 n c1, .slice a2 m c2] w (SameV (.bool (decide (l1 = l2))) w) := by
  have s1 := str_of w a1 n c1 l1 h1
  have s2 := str_of w a2 m c2 l2 h2
  have hd : decide (l1 = l2) = ((bytesOf l1).toList == (bytesOf l2).toList) := by
    rw [ByteArray.toList_eq, ByteArray.toList_eq]
    by_cases e : l1 = l2
    · subst e; simp
    · rw [decide_eq_false e]
      have : ¬ (bytesOf l1).data.toList = (bytesOf l2).data.toList := fun h => e (bytesOf_inj h1.ok h2.ok (by
        cases hb1 : bytesOf l1; cases hb2 : bytesOf l2
        rw [hb1, hb2] at h
        congr 1
        exact Array.toList_inj.1 h))
      symm
      rw [beq_eq_false_iff_ne]
      exact this
  rw [hd]
  clear hd h1 h2
  go_enter Try.func25, Try.ntmps25
  go_wp2
  go_ret
  exact ⟨rfl, rfl⟩
set_option maxHeartbeats 4000000 in
set_option maxRecDepth 100000 in
theorem same5_core (m h m2 h2 : Bool) (pt sq ts ss pr pt2 sq2 ts2 ss2 pr2 : Int) (ac ae ap ad ac2 ae2 ap2 ad2 : Option Addr) (nc cc ne ce np cp nd cd nc2 cc2 ne2 ce2 np2 cp2 nd2 cd2 : Nat) (bC bE bP bD : Bool) (w : World)
    (HC : Hid (∀ j, Calls Try.prog 24 #[.slice ac nc cc, .slice ac2 nc2 cc2] (((w.alloc (.cells #[.bool m, .int .i64 pt, .int .u16 sq, .int .u32 ts, .int .u32 ss, .slice ac nc cc, .bool h, .int .u16 pr, .slice ae ne ce, .slice ap np cp, .slice ad nd cd] 27)).alloc (.cells #[.bool m2, .int .i64 pt2, .int .u16 sq2, .int .u32 ts2, .int .u32 ss2, .slice ac2 nc2 cc2, .bool h2, .int .u16 pr2, .slice ae2 ne2 ce2, .slice ap2 np2 cp2, .slice ad2 nd2 cd2] 27)).drewN j) (Drawn (.bool bC) (((w.alloc (.cells #[.bool m, .int .i64 pt, .int .u16 sq, .int .u32 ts, .int .u32 ss, .slice ac nc cc, .bool h, .int .u16 pr, .slice ae ne ce, .slice ap np cp, .slice ad nd cd] 27)).alloc (.cells #[.bool m2, .int .i64 pt2, .int .u16 sq2, .int .u32 ts2, .int .u32 ss2, .slice ac2 nc2 cc2, .bool h2, .int .u16 pr2, .slice ae2 ne2 ce2, .slice ap2 np2 cp2, .slice ad2 nd2 cd2] 27)).drewN j))))
    (HE : Hid (∀ j, Calls Try.prog 25 #[.slice ae ne ce, .slice ae2 ne2 ce2] (((w.alloc (.cells #[.bool m, .int .i64 pt, .int .u16 sq, .int .u32 ts, .int .u32 ss, .slice ac nc cc, .bool h, .int .u16 pr, .slice ae ne ce, .slice ap np cp, .slice ad nd cd] 27)).alloc (.cells #[.bool m2, .int .i64 pt2, .int .u16 sq2, .int .u32 ts2, .int .u32 ss2, .slice ac2 nc2 cc2, .bool h2, .int .u16 pr2, .slice ae2 ne2 ce2, .slice ap2 np2 cp2, .slice ad2 nd2 cd2] 27)).drewN j) (Drawn (.bool bE) (((w.alloc (.cells #[.bool m, .int .i64 pt, .int .u16 sq, .int .u32 ts, .int .u32 ss, .slice ac nc cc, .bool h, .int .u16 pr, .slice ae ne ce, .slice ap np cp, .slice ad nd cd] 27)).alloc (.cells #[.bool m2, .int .i64 pt2, .int .u16 sq2, .int .u32 ts2, .int .u32 ss2, .slice ac2 nc2 cc2, .bool h2, .int .u16 pr2, .slice ae2 ne2 ce2, .slice ap2 np2 cp2, .slice ad2 nd2 cd2] 27)).drewN j))))
    (HP : Hid (∀ j, Calls Try.prog 25 #[.slice ap np cp, .slice ap2 np2 cp2] (((w.alloc (.cells #[.bool m, .int .i64 pt, .int .u16 sq, .int .u32 ts, .int .u32 ss, .slice ac nc cc, .bool h, .int .u16 pr, .slice ae ne ce, .slice ap np cp, .slice ad nd cd] 27)).alloc (.cells #[.bool m2, .int .i64 pt2, .int .u16 sq2, .int .u32 ts2, .int .u32 ss2, .slice ac2 nc2 cc2, .bool h2, .int .u16 pr2, .slice ae2 ne2 ce2, .slice ap2 np2 cp2, .slice ad2 nd2 cd2] 27)).drewN j) (Drawn (.bool bP) (((w.alloc (.cells #[.bool m, .int .i64 pt, .int .u16 sq, .int .u32 ts, .int .u32 ss, .slice ac nc cc, .bool h, .int .u16 pr, .slice ae ne ce, .slice ap np cp, .slice ad nd cd] 27)).alloc (.cells #[.bool m2, .int .i64 pt2, .int .u16 sq2, .int .u32 ts2, .int .u32 ss2, .slice ac2 nc2 cc2, .bool h2, .int .u16 pr2, .slice ae2 ne2 ce2, .slice ap2 np2 cp2, .slice ad2 nd2 cd2] 27)).drewN j))))
    (HD : Hid (∀ j, Calls Try.prog 25 #[.slice ad nd cd, .slice ad2 nd2 cd2] (((w.alloc (.cells #[.bool m, .int .i64 pt, .int .u16 sq, .int .u32 ts, .int .u32 ss, .slice ac nc cc, .bool h, .int .u16 pr, .slice ae ne ce, .slice ap np cp, .slice ad nd cd] 27)).alloc (.cells #[.bool m2, .int .i64 pt2, .int .u16 sq2, .int .u32 ts2, .int .u32 ss2, .slice ac2 nc2 cc2, .bool h2, .int .u16 pr2, .slice ae2 ne2 ce2, .slice ap2 np2 cp2, .slice ad2 nd2 cd2] 27)).drewN j) (Drawn (.bool bD) (((w.alloc (.cells #[.bool m, .int .i64 pt, .int .u16 sq, .int .u32 ts, .int .u32 ss, .slice ac nc cc, .bool h, .int .u16 pr, .slice ae ne ce, .slice ap np cp, .slice ad nd cd] 27)).alloc (.cells #[.bool m2, .int .i64 pt2, .int .u16 sq2, .int .u32 ts2, .int .u32 ss2, .slice ac2 nc2 cc2, .bool h2, .int .u16 pr2, .slice ae2 ne2 ce2, .slice ap2 np2 cp2, .slice ad2 nd2 cd2] 27)).drewN j))))
    : Calls Try.prog 11 #[.agg #[.bool m, .int .i64 pt, .int .u16 sq, .int .u32 ts, .int .u32 ss, .slice ac nc cc, .bool h, .int .u16 pr, .slice ae ne ce, .slice ap np cp, .slice ad nd cd], .agg #[.bool m2, .int .i64 pt2, .int .u16 sq2, .int .u32 ts2, .int .u32 ss2, .slice ac2 nc2 cc2, .bool h2, .int .u16 pr2, .slice ae2 ne2 ce2, .slice ap2 np2 cp2, .slice ad2 nd2 cd2]] w (ValB (.bool ((m == m2) && ((pt == pt2) && ((sq == sq2) && ((ts == ts2) && ((ss == ss2) && (bC && ((h == h2) && ((pr == pr2) && (bE && (bP && bD))))))))))) w) := by
  cases em : (m == m2)
  · skip
    go_enter Try.func11, Try.ntmps11
    go_wp2
    go_ret
    exact ⟨by first | rfl | simp [*], ((Below.refl _ w).alloc (Nat.le_refl _) _).alloc (by simp) _⟩
  · skip
    cases ept : (pt == pt2)
    · skip
      go_enter Try.func11, Try.ntmps11
      go_wp2
      go_ret
      exact ⟨by first | rfl | simp [*], ((Below.refl _ w).alloc (Nat.le_refl _) _).alloc (by simp) _⟩
    · skip
      cases esq : (sq == sq2)
      · skip
        go_enter Try.func11, Try.ntmps11
        go_wp2
        go_ret
        exact ⟨by first | rfl | simp [*], ((Below.refl _ w).alloc (Nat.le_refl _) _).alloc (by simp) _⟩
      · skip
        cases ets : (ts == ts2)
        · skip
          go_enter Try.func11, Try.ntmps11
          go_wp2
          go_ret
          exact ⟨by first | rfl | simp [*], ((Below.refl _ w).alloc (Nat.le_refl _) _).alloc (by simp) _⟩
        · skip
          cases ess : (ss == ss2)
          · skip
            go_enter Try.func11, Try.ntmps11
            go_wp2
            go_ret
            exact ⟨by first | rfl | simp [*], ((Below.refl _ w).alloc (Nat.le_refl _) _).alloc (by simp) _⟩
          · skip
            cases bC
            · skip
              go_enter Try.func11, Try.ntmps11
              go_wp2_with fail
              refine (HC.out (0)).mono ?_
              rintro e v0 ⟨rfl, j0, rfl⟩
              go_wp2
              go_ret
              exact ⟨by first | rfl | simp [*], (((Below.refl _ w).alloc (Nat.le_refl _) _).alloc (by simp) _).trans (below_drewN _ _ _)⟩
            · skip
              cases eh : (h == h2)
              · skip
                go_enter Try.func11, Try.ntmps11
                go_wp2_with fail
                refine (HC.out (0)).mono ?_
                rintro e v0 ⟨rfl, j0, rfl⟩
                go_wp2
                go_ret
                exact ⟨by first | rfl | simp [*], (((Below.refl _ w).alloc (Nat.le_refl _) _).alloc (by simp) _).trans (below_drewN _ _ _)⟩
              · skip
                cases epr : (pr == pr2)
                · skip
                  go_enter Try.func11, Try.ntmps11
                  go_wp2_with fail
                  refine (HC.out (0)).mono ?_
                  rintro e v0 ⟨rfl, j0, rfl⟩
                  go_wp2
                  go_ret
                  exact ⟨by first | rfl | simp [*], (((Below.refl _ w).alloc (Nat.le_refl _) _).alloc (by simp) _).trans (below_drewN _ _ _)⟩
                · skip
                  cases bE
                  · skip
                    go_enter Try.func11, Try.ntmps11
                    go_wp2_with fail
                    refine (HC.out (0)).mono ?_
                    rintro e v0 ⟨rfl, j0, rfl⟩
                    go_wp2_with fail
                    refine (HE.out (j0)).mono ?_
                    rintro e v1 ⟨rfl, j1, rfl⟩
                    rw [World.drewN_drewN]
                    go_wp2
                    go_ret
                    exact ⟨by first | rfl | simp [*], (((Below.refl _ w).alloc (Nat.le_refl _) _).alloc (by simp) _).trans (below_drewN _ _ _)⟩
                  · skip
                    cases bP
                    · skip
                      go_enter Try.func11, Try.ntmps11
                      go_wp2_with fail
                      refine (HC.out (0)).mono ?_
                      rintro e v0 ⟨rfl, j0, rfl⟩
                      go_wp2_with fail
                      refine (HE.out (j0)).mono ?_
                      rintro e v1 ⟨rfl, j1, rfl⟩
                      rw [World.drewN_drewN]
                      go_wp2_with fail
                      refine (HP.out (j0 + j1)).mono ?_
                      rintro e v2 ⟨rfl, j2, rfl⟩
                      rw [World.drewN_drewN]
                      go_wp2
                      go_ret
                      exact ⟨by first | rfl | simp [*], (((Below.refl _ w).alloc (Nat.le_refl _) _).alloc (by simp) _).trans (below_drewN _ _ _)⟩
                    · skip
                      cases bD
                      · skip
                        go_enter Try.func11, Try.ntmps11
                        go_wp2_with fail
                        refine (HC.out (0)).mono ?_
                        rintro e v0 ⟨rfl, j0, rfl⟩
                        go_wp2_with fail
                        refine (HE.out (j0)).mono ?_
                        rintro e v1 ⟨rfl, j1, rfl⟩
                        rw [World.drewN_drewN]
                        go_wp2_with fail
                        refine (HP.out (j0 + j1)).mono ?_
                        rintro e v2 ⟨rfl, j2, rfl⟩
                        rw [World.drewN_drewN]
                        go_wp2_with fail
                        refine (HD.out (j0 + j1 + j2)).mono ?_
                        rintro e v3 ⟨rfl, j3, rfl⟩
                        rw [World.drewN_drewN]
                        go_wp2
                        go_ret
                        exact ⟨by first | rfl | simp [*], (((Below.refl _ w).alloc (Nat.le_refl _) _).alloc (by simp) _).trans (below_drewN _ _ _)⟩
                      · skip
                        go_enter Try.func11, Try.ntmps11
                        go_wp2_with fail
                        refine (HC.out (0)).mono ?_
                        rintro e v0 ⟨rfl, j0, rfl⟩
                        go_wp2_with fail
                        refine (HE.out (j0)).mono ?_
                        rintro e v1 ⟨rfl, j1, rfl⟩
                        rw [World.drewN_drewN]
                        go_wp2_with fail
                        refine (HP.out (j0 + j1)).mono ?_
                        rintro e v2 ⟨rfl, j2, rfl⟩
                        rw [World.drewN_drewN]
                        go_wp2_with fail
                        refine (HD.out (j0 + j1 + j2)).mono ?_
                        rintro e v3 ⟨rfl, j3, rfl⟩
                        rw [World.drewN_drewN]
                        go_wp2
                        go_ret
                        exact ⟨by first | rfl | simp [*], (((Below.refl _ w).alloc (Nat.le_refl _) _).alloc (by simp) _).trans (below_drewN _ _ _)⟩
end Go.Proofs.Ytkoldfoliigifaa

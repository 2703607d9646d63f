/-
  rtp.Same and the reference's; Clone.
-/
import Derived.Test.YtfmabpddacfbcaaRtpWrite
import Derived.Test.YtfmabpddacfbcaaRtpClone
namespace Go.Proofs.Ytfmabpddacfbcaa
open Go.RowKit Go.Shelf
set_option linter.unusedVariables false
theorem words_any (a1 a2 : Option Addr) (n m c1 c2 : Nat) (l1 l2 : List Int) (w : World) (h1 : LgAt w a1 n l1) (h2 : LgAt w a2 m l2) (z1 : n ≤ 9223372036854775807) (z2 : m ≤ 9223372036854775807) :
    Calls Try.prog 26 #[.slice a1 n c1, .slice a2 m c2] w (Drawn (.bool (decide (l1 = l2))) w) := by
  have e1 := h1.1; have e2 := h2.1
  obtain ⟨g1, o1, r1⟩ := h1.2
  obtain ⟨g2, o2, r2⟩ := h2.2
  have E1 := Lib.hid e1; have E2 := Lib.hid e2; have H1 := Lib.hid r1; have H2 := Lib.hid r2
  clear e1 e2 r1 r2 h1 h2
  by_cases hnm : n = m
  · subst hnm
    have hne : ((n : Int) != (n : Int)) = false := by simp
    go_enter Try.func26, Try.ntmps26
    go_wp2
    go_loopw [5] (fun i wr => ∃ (k m : Nat), k ≤ n ∧ i = .int .i64 k ∧ Hid (wr = w.drewN m ∧ ∀ j, j < k → l1.getD j 0 = l2.getD j 0)) (fun i _ => n - (intOf i).toNat)
    case atStart => exact ⟨0, 0, Nat.zero_le _, rfl, Lib.hid ⟨rfl, fun j hj => by omega⟩⟩
    case round =>
      obtain ⟨k, m, hk, rfl, HW⟩ := hrel
      by_cases hlt : k < n
      · have hltz : (k : Int) < (n : Int) := by omega
        obtain ⟨rfl, _, d1, _⟩ := H1.out k hlt
        obtain ⟨rfl, _, d2, _⟩ := H2.out k hlt
        have d1 : wr.cell? ⟨g1, o1 + k, none⟩ = some (.int .u32 (l1.getD k 0)) := by rw [HW.out.1]; exact d1
        have d2 : wr.cell? ⟨g2, o2 + k, none⟩ = some (.int .u32 (l2.getD k 0)) := by rw [HW.out.1]; exact d2
        by_cases hx : l1.getD k 0 = l2.getD k 0
        · have HE' : Hid (∀ j, j < k + 1 → l1.getD j 0 = l2.getD j 0) := Lib.hid fun j hj => by
            by_cases e : j = k
            · subst e; exact hx
            · exact HW.out.2 j (by omega)
          have hbn : (l1.getD k 0 != l2.getD k 0) = false := by rw [hx]; simp
          clear hx
          generalize l1.getD k 0 = x at d1 hbn
          generalize l2.getD k 0 = y at d2 hbn
          go_wp2_with fail
          go_quiet (fail)
          go_wp2
          go_roundw
          case rel => exact ⟨k + 1, m + nq, by omega, by go_num, Lib.hid ⟨by rw [HW.out.1, World.drewN_drewN], HE'.out⟩⟩
          case measure => simp [intOf]; omega
        · have hd : decide (l1 = l2) = false := decide_eq_false fun e => hx (by rw [e])
          have HD := Lib.hid hd
          have hbn : (l1.getD k 0 != l2.getD k 0) = true := by simpa using hx
          clear hx hd
          generalize l1.getD k 0 = x at d1 hbn
          generalize l2.getD k 0 = y at d2 hbn
          go_wp2_with fail
          go_quiet (fail)
          go_wp2
          go_ret
          exact ⟨by rw [HD.out] <;> rfl, m + nq, by rw [HW.out.1, World.drewN_drewN]⟩
      · have hltz : ¬ (k : Int) < (n : Int) := by omega
        have hd : decide (l1 = l2) = true := decide_eq_true (getD_ext (by rw [E1.out, E2.out]) fun i hi => HW.out.2 i (by have := E1.out; omega))
        have HD := Lib.hid hd; clear hd
        go_wp2
        go_ret
        exact ⟨by rw [HD.out] <;> rfl, m, HW.out.1⟩
  · have hne : ((n : Int) != (m : Int)) = true := by rw [bne_iff_ne]; omega
    have hd : decide (l1 = l2) = false := decide_eq_false fun e => hnm (by rw [← E1.out, ← E2.out, e])
    have HD := Lib.hid hd; clear hd
    go_enter Try.func26, Try.ntmps26
    go_wp2
    go_ret
    exact ⟨by rw [HD.out] <;> rfl, 0, rfl⟩
theorem bytesOf_data (l : List Int) : ∀ r : ByteArray, (l.foldl (fun r n => r.push (UInt8.ofNat n.toNat)) r).data.toList = r.data.toList ++ l.map (fun n => UInt8.ofNat n.toNat) := by
  induction l with
  | nil => intro r; simp
  | cons a l ih => intro r; rw [List.foldl_cons, ih]; simp [ByteArray.push]
theorem bytesOf_inj {l1 l2 : List Int} (h1 : Str.Ok l1) (h2 : Str.Ok l2) (h : bytesOf l1 = bytesOf l2) : l1 = l2 := by
  have e : l1.map (fun n => UInt8.ofNat n.toNat) = l2.map (fun n => UInt8.ofNat n.toNat) := by
    have d1 := bytesOf_data l1 ByteArray.empty
    have d2 := bytesOf_data l2 ByteArray.empty
    unfold bytesOf at h
    rw [h] at d1
    rw [d1] at d2
    simpa using d2
  have hl : l1.length = l2.length := by simpa using congrArg List.length e
  refine getD_ext hl fun i hi => ?_
  have hi2 : i < l2.length := by omega
  have := congrArg (fun x => x[i]?) e
  simp [List.getElem?_map, List.getElem?_eq_getElem hi, List.getElem?_eq_getElem hi2] at this
  have b1 := h1 i; have b2 := h2 i
  rw [List.getD_eq_getElem?_getD, List.getElem?_eq_getElem hi] at b1 ⊢
  rw [List.getD_eq_getElem?_getD, List.getElem?_eq_getElem hi2] at b2 ⊢
  simp at b1 b2 ⊢
  have h3 := congrArg UInt8.toNat this
  simp at h3
  omega
end Go.Proofs.Ytfmabpddacfbcaa
namespace Go.Proofs.Ytfmabpddacfbcaa
open Go.RowKit Go.Shelf
set_option linter.unusedVariables false
def out_Seq (n : Nat) (l : List Int) : Value := if pcodeF n l = 0 then .tuple #[.int .u16 (ppk l).seq, .bool true] else .tuple #[.int .u16 0, .bool false]
def out_SSRC (n : Nat) (l : List Int) : Value := if pcodeF n l = 0 then .tuple #[.int .u32 (ppk l).ssrc, .bool true] else .tuple #[.int .u32 0, .bool false]
def out_PT (n : Nat) (l : List Int) : Value := if pcodeF n l = 0 then .tuple #[.int .i64 (ppk l).pt, .bool true] else .tuple #[.int .i64 0, .bool false]
end Go.Proofs.Ytfmabpddacfbcaa
namespace Go.Proofs.Ytfmabpddacfbcaa
open Go.RowKit Go.Shelf
set_option linter.unusedVariables false
def pkEq (p q : Pk) : Bool := (p.marker == q.marker) && ((p.pt == q.pt) && ((p.seq == q.seq) && ((p.ts == q.ts) && ((p.ssrc == q.ssrc) && (decide (p.csrc = q.csrc) && ((p.hasExt == q.hasExt) && ((p.profile == q.profile) && (decide (p.ext = q.ext) && (decide (p.payload = q.payload) && decide (p.pad = q.pad))))))))))
theorem pkEq_self (p : Pk) : pkEq p p = true := by simp [pkEq]
theorem pkEq_iff (p q : Pk) : pkEq p q = true ↔ p = q := by
  obtain ⟨m, pt, sq, ts, ss, cs, h, pr, ex, py, pd⟩ := p
  obtain ⟨m2, pt2, sq2, ts2, ss2, cs2, h2, pr2, ex2, py2, pd2⟩ := q
  simp [pkEq]
theorem drawn_of {v : Value} {w : World} {e : Ending} {w' : World} (h : SameV v w e w') : Drawn v w e w' := by
  obtain ⟨rfl, rfl⟩ := h; exact ⟨rfl, 0, rfl⟩
end Go.Proofs.Ytfmabpddacfbcaa

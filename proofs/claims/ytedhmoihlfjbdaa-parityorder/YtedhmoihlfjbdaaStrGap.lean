
/-
  Bytes in memory; contracts of stripe.Gap, stripe.Zero and of the comparison of bytes.
-/
import Derived.Test.YtedhmoihlfjbdaaStrPlain
import Derived.Test.YtedhmoihlfjbdaaChecked
import Derived.Deep.QuietTactic
import Derived.BigQuiet
import Derived.Deep.LoopGhost
namespace Go.Proofs.Ytedhmoihlfjbdaa
open Go.RowKit
set_option linter.unusedVariables false
/-- The slice a of n bytes reads as l. -/
structure BAt (W : World) (a : Option Addr) (n : Nat) (l : List Int) : Prop where
  len : l.length = n
  lim : n ≤ 9223372036854775807
  row : ∃ b o, ∀ i, i < n → a = some ⟨b, o, none⟩ ∧ b < W.heap.size ∧ W.cell? ⟨b, o + i, none⟩ = some (.int .u8 (l.getD i 0)) ∧ 0 ≤ l.getD i 0 ∧ l.getD i 0 < 256
theorem BAt.ok {W : World} {a : Option Addr} {n : Nat} {l : List Int} (h : BAt W a n l) : Str.Ok l := fun i => by
  obtain ⟨b, o, hr⟩ := h.row
  by_cases hi : i < n
  · exact (hr i hi).2.2.2
  · rw [getD_out (by have := h.len; omega)]; omega
/-- It reads so in every world in which its block is as it was. -/
theorem BAt.same {W W' : World} {a : Option Addr} {n : Nat} {l : List Int} (h : BAt W a n l) (hz : W.heap.size ≤ W'.heap.size) (hs : ∀ x, 0 < n → a = some x → x.block < W.heap.size → W'.heap[x.block]? = W.heap[x.block]?) : BAt W' a n l := by
  obtain ⟨b, o, hr⟩ := h.row
  refine ⟨h.len, h.lim, b, o, fun i hi => ?_⟩
  obtain ⟨h1, h2, h3, h4⟩ := hr i hi
  exact ⟨h1, by omega, (World.cell?_of_block (w := W) (a := ⟨b, o + i, Option.none⟩) (hs ⟨b, o, Option.none⟩ (by omega) h1 h2)).trans h3, h4⟩
theorem BAt.below {W W' : World} {a : Option Addr} {n : Nat} {l : List Int} (h : BAt W a n l) (hb : Below W.heap.size W W') : BAt W' a n l :=
  h.same hb.size fun x _ _ hx => hb.block _ hx
theorem BAt.drewN {W : World} {a : Option Addr} {n : Nat} {l : List Int} (h : BAt W a n l) (k : Nat) : BAt (W.drewN k) a n l := h.same (Nat.le_refl _) fun _ _ _ _ => rfl
theorem BAt.none (W : World) : BAt W none 0 [] := ⟨rfl, by omega, 0, 0, fun i hi => by omega⟩
def SameV (v : Value) (w : World) (e : Ending) (w' : World) : Prop := e = .returned v ∧ w = w'
set_option maxHeartbeats 1000000 in
set_option maxRecDepth 100000 in
theorem gap_up (a b : Option Addr) (n m c d : Nat) (la lb : List Int) (w : World) (ha : BAt w a n la) (hb : BAt w b m lb) (hnm : m ≤ n) :
    Calls Try.prog 67 #[.slice a n c, .slice b m d] w (SameV (.int .i64 (Str.gap la lb)) w) := by
  obtain ⟨g1, o1, h1⟩ := ha.row
  obtain ⟨g2, o2, h2⟩ := hb.row
  have l1 := ha.len; have l2 := hb.len; have z1 := ha.lim; have z2 := hb.lim
  have L1 := Lib.hid l1; have L2 := Lib.hid l2; have H1 := Lib.hid h1; have H2 := Lib.hid h2
  clear l1 l2 h1 h2 ha hb
  have hlt0 : ¬ (n : Int) < (m : Int) := by omega
  go_enter Try.func67, Try.ntmps67
  go_wp2
  go_loop [17] (fun i => ∃ k : Nat, k ≤ n ∧ i = .int .i64 k ∧ Hid (∀ j, j < k → la.getD j 0 = lb.getD j 0)) (fun i => n - (intOf i).toNat)
  case atStart => exact ⟨0, Nat.zero_le _, rfl, Lib.hid (fun j hj => by omega)⟩
  case round =>
    obtain ⟨k, hk, rfl, HE⟩ := hrel
    by_cases hlt : k < n
    · have hltz : (k : Int) < (n : Int) := by omega
      obtain ⟨rfl, q1, q2, q3, q4⟩ := H1.out k hlt
      by_cases hm : k < m
      · have hmz : (k : Int) < (m : Int) := by omega
        obtain ⟨rfl, r1, r2, r3, r4⟩ := H2.out k hm
        by_cases hx : la.getD k 0 = lb.getD k 0
        · have HX := Lib.hid hx; clear hx
          have HE' : Hid (∀ j, j < k + 1 → la.getD j 0 = lb.getD j 0) := Lib.hid fun j hj => by
            by_cases e : j = k
            · subst e; exact HX.out
            · exact HE.out j (by omega)
          have hbn : (la.getD k 0 != lb.getD k 0) = false := by rw [HX.out]; simp
          generalize la.getD k 0 = x at q2 q3 q4 hbn
          generalize lb.getD k 0 = y at r2 r3 r4 hbn
          go_wp2
          go_round
          case rel => exact ⟨k + 1, by omega, by go_num, HE'⟩
          case measure => simp [intOf]; omega
        · have hg := Str.gap_at hx HE.out
          have HG := Lib.hid hg
          have hbn : (la.getD k 0 != lb.getD k 0) = true := by simpa using hx
          clear hg hx
          generalize la.getD k 0 = x at q2 q3 q4 hbn
          generalize lb.getD k 0 = y at r2 r3 r4 hbn
          go_wp2
          go_ret
          exact ⟨by rw [HG.out] <;> rfl, rfl⟩
      · have hmz : ¬ (k : Int) < (m : Int) := by omega
        have hy : lb.getD k 0 = 0 := getD_out (by have := L2.out; omega)
        by_cases hx : la.getD k 0 = 0
        · have HE' : Hid (∀ j, j < k + 1 → la.getD j 0 = lb.getD j 0) := Lib.hid fun j hj => by
            by_cases e : j = k
            · subst e; rw [hx, hy]
            · exact HE.out j (by omega)
          have hbn : (la.getD k 0 != 0) = false := by rw [hx]; simp
          clear hx hy
          generalize la.getD k 0 = x at q2 q3 q4 hbn
          go_wp2
          go_round
          case rel => exact ⟨k + 1, by omega, by go_num, HE'⟩
          case measure => simp [intOf]; omega
        · have hg := Str.gap_at (b := lb) (by rw [hy]; exact hx) HE.out
          have HG := Lib.hid hg
          have hbn : (la.getD k 0 != 0) = true := by simpa using hx
          clear hg hx hy
          generalize la.getD k 0 = x at q2 q3 q4 hbn
          go_wp2
          go_ret
          exact ⟨by rw [HG.out] <;> rfl, rfl⟩
    · have hltz : ¬ (k : Int) < (n : Int) := by omega
      have hg : Str.gap la lb = -1 := Str.gap_none fun j => by
        by_cases hj : j < k
        · exact HE.out j hj
        · have := L1.out; have := L2.out; rw [getD_out (a := la) (by omega), getD_out (a := lb) (by omega)]
      have HG := Lib.hid hg; clear hg
      go_wp2
      go_ret
      exact ⟨by rw [HG.out] <;> rfl, rfl⟩
set_option maxHeartbeats 1000000 in
set_option maxRecDepth 100000 in
theorem gap_down (a b : Option Addr) (n m c d : Nat) (la lb : List Int) (w : World) (hb : BAt w b n la) (ha : BAt w a m lb) (hnm : m < n) :
    Calls Try.prog 67 #[.slice a m c, .slice b n d] w (SameV (.int .i64 (Str.gap la lb)) w) := by
  obtain ⟨g1, o1, h1⟩ := hb.row
  obtain ⟨g2, o2, h2⟩ := ha.row
  have l1 := hb.len; have l2 := ha.len; have z1 := hb.lim; have z2 := ha.lim
  have L1 := Lib.hid l1; have L2 := Lib.hid l2; have H1 := Lib.hid h1; have H2 := Lib.hid h2
  clear l1 l2 h1 h2 ha hb
  have hlt0 : (m : Int) < (n : Int) := by omega
  go_enter Try.func67, Try.ntmps67
  go_wp2
  go_loop [17] (fun i => ∃ k : Nat, k ≤ n ∧ i = .int .i64 k ∧ Hid (∀ j, j < k → la.getD j 0 = lb.getD j 0)) (fun i => n - (intOf i).toNat)
  case atStart => exact ⟨0, Nat.zero_le _, rfl, Lib.hid (fun j hj => by omega)⟩
  case round =>
    obtain ⟨k, hk, rfl, HE⟩ := hrel
    by_cases hlt : k < n
    · have hltz : (k : Int) < (n : Int) := by omega
      obtain ⟨rfl, q1, q2, q3, q4⟩ := H1.out k hlt
      by_cases hm : k < m
      · have hmz : (k : Int) < (m : Int) := by omega
        obtain ⟨rfl, r1, r2, r3, r4⟩ := H2.out k hm
        by_cases hx : la.getD k 0 = lb.getD k 0
        · have HX := Lib.hid hx; clear hx
          have HE' : Hid (∀ j, j < k + 1 → la.getD j 0 = lb.getD j 0) := Lib.hid fun j hj => by
            by_cases e : j = k
            · subst e; exact HX.out
            · exact HE.out j (by omega)
          have hbn : (la.getD k 0 != lb.getD k 0) = false := by rw [HX.out]; simp
          generalize la.getD k 0 = x at q2 q3 q4 hbn
          generalize lb.getD k 0 = y at r2 r3 r4 hbn
          go_wp2
          go_round
          case rel => exact ⟨k + 1, by omega, by go_num, HE'⟩
          case measure => simp [intOf]; omega
        · have hg := Str.gap_at hx HE.out
          have HG := Lib.hid hg
          have hbn : (la.getD k 0 != lb.getD k 0) = true := by simpa using hx
          clear hg hx
          generalize la.getD k 0 = x at q2 q3 q4 hbn
          generalize lb.getD k 0 = y at r2 r3 r4 hbn
          go_wp2
          go_ret
          exact ⟨by rw [HG.out] <;> rfl, rfl⟩
      · have hmz : ¬ (k : Int) < (m : Int) := by omega
        have hy : lb.getD k 0 = 0 := getD_out (by have := L2.out; omega)
        by_cases hx : la.getD k 0 = 0
        · have HE' : Hid (∀ j, j < k + 1 → la.getD j 0 = lb.getD j 0) := Lib.hid fun j hj => by
            by_cases e : j = k
            · subst e; rw [hx, hy]
            · exact HE.out j (by omega)
          have hbn : (la.getD k 0 != 0) = false := by rw [hx]; simp
          clear hx hy
          generalize la.getD k 0 = x at q2 q3 q4 hbn
          go_wp2
          go_round
          case rel => exact ⟨k + 1, by omega, by go_num, HE'⟩
          case measure => simp [intOf]; omega
        · have hg := Str.gap_at (b := lb) (by rw [hy]; exact hx) HE.out
          have HG := Lib.hid hg
          have hbn : (la.getD k 0 != 0) = true := by simpa using hx
          clear hg hx hy
          generalize la.getD k 0 = x at q2 q3 q4 hbn
          go_wp2
          go_ret
          exact ⟨by rw [HG.out] <;> rfl, rfl⟩
    · have hltz : ¬ (k : Int) < (n : Int) := by omega
      have hg : Str.gap la lb = -1 := Str.gap_none fun j => by
        by_cases hj : j < k
        · exact HE.out j hj
        · have := L1.out; have := L2.out; rw [getD_out (a := la) (by omega), getD_out (a := lb) (by omega)]
      have HG := Lib.hid hg; clear hg
      go_wp2
      go_ret
      exact ⟨by rw [HG.out] <;> rfl, rfl⟩
theorem gap_any (a b : Option Addr) (n m c d : Nat) (la lb : List Int) (w : World) (ha : BAt w a n la) (hb : BAt w b m lb) :
    Calls Try.prog 67 #[.slice a n c, .slice b m d] w (SameV (.int .i64 (Str.gap la lb)) w) := by
  by_cases h : m ≤ n
  · exact gap_up a b n m c d la lb w ha hb h
  · rw [Str.gap_comm]; exact gap_down a b m n c d lb la w hb ha (by omega)
/-- What returned v, and at most drew. -/
def Drawn (v : Value) (w : World) (e : Ending) (w' : World) : Prop := e = .returned v ∧ ∃ k, w' = w.drewN k
set_option maxHeartbeats 1000000 in
set_option maxRecDepth 100000 in
theorem same_any (a1 a2 : Option Addr) (n m c1 c2 : Nat) (l1 l2 : List Int) (w : World) (h1 : BAt w a1 n l1) (h2 : BAt w a2 m l2) :
    Calls Try.prog 40 #[.slice a1 n c1, .slice a2 m c2] w (Drawn (.bool (decide (l1 = l2))) w) := by
  have e1 := h1.len; have e2 := h2.len; have z1 := h1.lim; have z2 := h2.lim
  obtain ⟨g1, o1, r1⟩ := h1.row
  obtain ⟨g2, o2, r2⟩ := h2.row
  have E1 := Lib.hid e1; have E2 := Lib.hid e2; have H1 := Lib.hid r1; have H2 := Lib.hid r2
  clear e1 e2 r1 r2 h1 h2
  by_cases hnm : n = m
  · subst hnm
    have hne : ((n : Int) != (n : Int)) = false := by simp
    go_enter Try.func40, Try.ntmps40
    go_wp2
    go_loopw [5] (fun i wr => ∃ (k m : Nat), k ≤ n ∧ i = .int .i64 k ∧ Hid (wr = w.drewN m ∧ ∀ j, j < k → l1.getD j 0 = l2.getD j 0)) (fun i _ => n - (intOf i).toNat)
    case atStart => exact ⟨0, 0, Nat.zero_le _, rfl, Lib.hid ⟨rfl, fun j hj => by omega⟩⟩
    case round =>
      obtain ⟨k, m, hk, rfl, HW⟩ := hrel
      by_cases hlt : k < n
      · have hltz : (k : Int) < (n : Int) := by omega
        obtain ⟨rfl, _, d1, _⟩ := H1.out k hlt
        obtain ⟨rfl, _, d2, _⟩ := H2.out k hlt
        have d1 : wr.cell? ⟨g1, o1 + k, none⟩ = some (.int .u8 (l1.getD k 0)) := by rw [HW.out.1]; exact d1
        have d2 : wr.cell? ⟨g2, o2 + k, none⟩ = some (.int .u8 (l2.getD k 0)) := by rw [HW.out.1]; exact d2
        by_cases hx : l1.getD k 0 = l2.getD k 0
        · have HE' : Hid (∀ j, j < k + 1 → l1.getD j 0 = l2.getD j 0) := Lib.hid fun j hj => by
            by_cases e : j = k
            · subst e; exact hx
            · exact HW.out.2 j (by omega)
          have hbn : (l1.getD k 0 != l2.getD k 0) = false := by rw [hx]; simp
          clear hx
          generalize l1.getD k 0 = x at d1 hbn
          generalize l2.getD k 0 = y at d2 hbn
          go_wp2_with fail
          go_quiet (fail)
          go_wp2
          go_roundw
          case rel => exact ⟨k + 1, m + nq, by omega, by go_num, Lib.hid ⟨by rw [HW.out.1, World.drewN_drewN], HE'.out⟩⟩
          case measure => simp [intOf]; omega
        · have hd : decide (l1 = l2) = false := decide_eq_false fun e => hx (by rw [e])
          have HD := Lib.hid hd
          have hbn : (l1.getD k 0 != l2.getD k 0) = true := by simpa using hx
          clear hx hd
          generalize l1.getD k 0 = x at d1 hbn
          generalize l2.getD k 0 = y at d2 hbn
          go_wp2_with fail
          go_quiet (fail)
          go_wp2
          go_ret
          exact ⟨by rw [HD.out] <;> rfl, m + nq, by rw [HW.out.1, World.drewN_drewN]⟩
      · have hltz : ¬ (k : Int) < (n : Int) := by omega
        have hd : decide (l1 = l2) = true := decide_eq_true (getD_ext (by rw [E1.out, E2.out]) fun i hi => HW.out.2 i (by have := E1.out; omega))
        have HD := Lib.hid hd; clear hd
        go_wp2
        go_ret
        exact ⟨by rw [HD.out] <;> rfl, m, HW.out.1⟩
  · have hne : ((n : Int) != (m : Int)) = true := by rw [bne_iff_ne]; omega
    have hd : decide (l1 = l2) = false := decide_eq_false fun e => hnm (by rw [← E1.out, ← E2.out, e])
    have HD := Lib.hid hd; clear hd
    go_enter Try.func40, Try.ntmps40
    go_wp2
    go_ret
    exact ⟨by rw [HD.out] <;> rfl, 0, rfl⟩
end Go.Proofs.Ytedhmoihlfjbdaa


/-
  ImprintPackets: the walk.
-/
import Derived.Test.YtppgjodehphaeaaIbPkLaw0
import Derived.Test.YtppgjodehphaeaaIbLike
import Derived.Test.YtppgjodehphaeaaIbRef
import Derived.Test.YtppgjodehphaeaaIbAlPlain
namespace Go.Proofs.Ytppgjodehphaeaa
open Go.RowKit Go.Shelf
set_option linter.unusedVariables false
set_option linter.unusedSimpArgs false
def by8 (h : Nat → Int) : Prop := ∀ j, 0 ≤ h j ∧ h j < 256
def l8 (h : Nat → Int) : List Int := [h 0, h 1, h 2, h 3, h 4, h 5, h 6, h 7]
set_option maxHeartbeats 1000000 in
set_option maxRecDepth 100000 in
theorem walk_ImprintPackets (p q : Nat → Int) (a b : Option Addr) (n c m d : Nat) (la lb : List Int) (sq ss : Int) (w : World) (ha : BAt w a n la) (hac : n ≤ c) (hb : BAt w b m lb) (hp : by8 p) (hq : by8 q) (hsq : 0 ≤ sq ∧ sq < 65536) (hss : 0 ≤ ss ∧ ss < 4294967296) :
    Calls Try.prog 4 #[.agg #[.int .u8 (p 0), .int .u8 (p 1), .int .u8 (p 2), .int .u8 (p 3), .int .u8 (p 4), .int .u8 (p 5), .int .u8 (p 6), .int .u8 (p 7), .slice a n c], .agg #[.int .u8 (q 0), .int .u8 (q 1), .int .u8 (q 2), .int .u8 (q 3), .int .u8 (q 4), .int .u8 (q 5), .int .u8 (q 6), .int .u8 (q 7), .slice b m d], .int .u16 sq, .int .u32 ss] w (TrueA w) := by
  obtain ⟨wx, hwx⟩ : ∃ u, (w.alloc (.cells #[.int .u8 (p 0), .int .u8 (p 1), .int .u8 (p 2), .int .u8 (p 3), .int .u8 (p 4), .int .u8 (p 5), .int .u8 (p 6), .int .u8 (p 7), .slice a n c] 27)).alloc (.cells #[.int .u8 (q 0), .int .u8 (q 1), .int .u8 (q 2), .int .u8 (q 3), .int .u8 (q 4), .int .u8 (q 5), .int .u8 (q 6), .int .u8 (q 7), .slice b m d] 27) = u := ⟨_, rfl⟩
  obtain ⟨Q, hQ⟩ : ∃ Q : World → Prop, (fun W => Below w.heap.size w W ∧ Bx W w.heap.size (p 0) (p 1) (p 2) (p 3) (p 4) (p 5) (p 6) (p 7) a n c ∧ Bx W (w.heap.size + 1) (q 0) (q 1) (q 2) (q 3) (q 4) (q 5) (q 6) (q 7) b m d) = Q := ⟨_, rfl⟩
  have HQ : Hid (∀ W, Q W ↔ Below w.heap.size w W ∧ Bx W w.heap.size (p 0) (p 1) (p 2) (p 3) (p 4) (p 5) (p 6) (p 7) a n c ∧ Bx W (w.heap.size + 1) (q 0) (q 1) (q 2) (q 3) (q 4) (q 5) (q 6) (q 7) b m d) := Lib.hid fun W => by rw [← hQ]
  have hQx : Q wx := by
    rw [HQ.out]
    obtain ⟨u1, hu1⟩ : ∃ u, w.alloc (.cells #[.int .u8 (p 0), .int .u8 (p 1), .int .u8 (p 2), .int .u8 (p 3), .int .u8 (p 4), .int .u8 (p 5), .int .u8 (p 6), .int .u8 (p 7), .slice a n c] 27) = u := ⟨_, rfl⟩
    rw [hu1] at hwx
    have e1 : u1.heap.size = w.heap.size + 1 := by rw [← hu1]; simp
    have k1 : Below w.heap.size w u1 := by rw [← hu1]; exact (Below.refl _ w).alloc (Nat.le_refl _) _
    have x1 : Bx u1 w.heap.size (p 0) (p 1) (p 2) (p 3) (p 4) (p 5) (p 6) (p 7) a n c := by unfold Bx; rw [← hu1]; exact lit_new rfl
    have k2 : Below u1.heap.size u1 wx := by rw [← hwx]; exact (Below.refl _ u1).alloc (Nat.le_refl _) _
    refine ⟨k1.trans (k2.mono k1.size), x1.below k2, ?_⟩
    unfold Bx; rw [← hwx, ← e1]; exact lit_new rfl
  have QB : Hid (∀ W W', Q W → Below W.heap.size W W' → Q W') := Lib.hid fun W W' hW hb => by
    rw [HQ.out] at hW ⊢
    exact ⟨hW.1.trans (hb.mono hW.1.size), hW.2.1.below hb, hW.2.2.below hb⟩
  have HQL : Hid (∀ W, Q W → Below w.heap.size w W) := Lib.hid fun W hW => ((HQ.out W).1 hW).1
  have HXC : Hid (∀ W, Q W → _) := Lib.hid fun W hW => ((HQ.out W).1 hW).2.1.cs
  have HYC : Hid (∀ W, Q W → _) := Lib.hid fun W hW => ((HQ.out W).1 hW).2.2.cs
  have HA := Lib.hid ha; have HB := Lib.hid hb; have HP := Lib.hid hp; have HQ8 := Lib.hid hq; have HWX := Lib.hid hwx; have HQX := Lib.hid hQx
  have hla := ha.lim; have hlb := hb.lim
  clear ha hb hp hq hwx hQ hQx
  go_enter Try.func4, Try.ntmps4
  go_wp2_with fail
  rw [HWX.out]
  refine (ialive _).mono ?_
  rintro e w1 ⟨rfl, hB1⟩
  have HQ1 := Lib.hid (QB.out _ _ HQX.out hB1)
  clear HWX HQX hB1
  obtain ⟨x0, x1, x2, x3, x4, x5, x6, x7, x8⟩ := HXC.out _ HQ1.out
  obtain ⟨y0, y1, y2, y3, y4, y5, y6, y7, y8⟩ := HYC.out _ HQ1.out
  by_cases h1 : 2000 < n
  · have h1z : (2000 : Int) < (n : Int) := by omega
    go_wp2_with fail
    go_ret
    exact ⟨rfl, HQL.out _ HQ1.out⟩
  have h1z : ¬ (2000 : Int) < (n : Int) := by omega
  by_cases h2 : 2000 < m
  · have h2z : (2000 : Int) < (m : Int) := by omega
    go_wp2_with fail
    go_ret
    exact ⟨rfl, HQL.out _ HQ1.out⟩
  have h2z : ¬ (2000 : Int) < (m : Int) := by omega
  go_wp2_with fail
  have hpk := packet_any (p 0) (p 1) (p 2) (p 3) (p 4) (p 5) (p 6) (p 7) a n c la sq ss w1 (HA.out.below (HQL.out _ HQ1.out)) hac (by omega) (HP.out 0) (HP.out 1) (HP.out 2) (HP.out 3) (HP.out 4) (HP.out 5) (HP.out 6) (HP.out 7) hsq hss
  have hrp : ∀ (ah : Option Addr) (ch : Nat) (W : World), BAt W ah 8 [p 0, p 1, p 2, p 3, p 4, p 5, p 6, p 7] → 8 ≤ ch → Q W → _ := fun ah ch W h1 h2 h3 => rpacket_any (p 0) (p 1) (p 2) (p 3) (p 4) (p 5) (p 6) (p 7) ah a ch n c la sq ss W h1 (HA.out.below (HQL.out _ h3)) h2 hac (by omega) (HP.out 0) (HP.out 1) (HP.out 2) (HP.out 3) (HP.out 4) (HP.out 5) (HP.out 6) (HP.out 7) hsq hss
  have hpc01 : ipc (p 0) (p 1) (p 2) (p 3) (p 4) (p 5) (p 6) (p 7) la sq ss = 0 ∨ ipc (p 0) (p 1) (p 2) (p 3) (p 4) (p 5) (p 6) (p 7) la sq ss = 42 := by
    unfold ipc; split
    · exact .inr rfl
    · split
      · exact .inl rfl
      · exact .inr rfl
  generalize ipc (p 0) (p 1) (p 2) (p 3) (p 4) (p 5) (p 6) (p 7) la sq ss = PC at hpk hrp hpc01
  generalize ipo (p 0) (p 1) (p 2) (p 3) (p 4) (p 5) (p 6) (p 7) la sq ss = PO at hpk hrp
  have hwpc : IntKind.i64.wrap PC = PC := by rw [IntKind.wrap_i64]; omega
  have hpcn : (PC != PC) = false := by simp
  have HRP := Lib.hid hrp
  have HAS : Hid (∀ W, Calls Try.prog 15 #[.agg #[.int .u8 (p 0), .int .u8 (p 1), .int .u8 (p 2), .int .u8 (p 3), .int .u8 (p 4), .int .u8 (p 5), .int .u8 (p 6), .int .u8 (p 7), .slice a n c]] W (AsOut [p 0, p 1, p 2, p 3, p 4, p 5, p 6, p 7] a n c W)) := Lib.hid fun W => as_any (p 0) (p 1) (p 2) (p 3) (p 4) (p 5) (p 6) (p 7) a n c W (HP.out 0) (HP.out 1) (HP.out 2) (HP.out 3) (HP.out 4) (HP.out 5) (HP.out 6) (HP.out 7)
  have HAT : Hid (∀ W, Calls Try.prog 15 #[.agg #[.int .u8 (q 0), .int .u8 (q 1), .int .u8 (q 2), .int .u8 (q 3), .int .u8 (q 4), .int .u8 (q 5), .int .u8 (q 6), .int .u8 (q 7), .slice b m d]] W (AsOut [q 0, q 1, q 2, q 3, q 4, q 5, q 6, q 7] b m d W)) := Lib.hid fun W => as_any (q 0) (q 1) (q 2) (q 3) (q 4) (q 5) (q 6) (q 7) b m d W (HQ8.out 0) (HQ8.out 1) (HQ8.out 2) (HQ8.out 3) (HQ8.out 4) (HQ8.out 5) (HQ8.out 6) (HQ8.out 7)
  clear hrp hpc01
  refine (hpk).mono ?_
  rintro e w2 ⟨a2, n2, c2, rfl, hO2, hB2⟩
  have HQ2 := Lib.hid (QB.out _ _ HQ1.out hB2)
  have HP2 := Lib.hid hO2.bat
  clear x0 x1 x2 x3 x4 x5 x6 x7 x8 y0 y1 y2 y3 y4 y5 y6 y7 y8 hpk hO2 hB2 HQ1
  obtain ⟨x0, x1, x2, x3, x4, x5, x6, x7, x8⟩ := HXC.out _ HQ2.out
  go_wp2_with fail
  refine (HAS.out _).mono ?_
  rintro e w3 ⟨ah, ch, rfl, hO3, hB3⟩
  have HQ3 := Lib.hid (QB.out _ _ HQ2.out hB3)
  have HP3 := Lib.hid (HP2.out.below hB3)
  have HAH := Lib.hid hO3.bat
  have HCH := Lib.hid hO3.cap7
  clear x0 x1 x2 x3 x4 x5 x6 x7 x8 hO3 hB3 HQ2 HP2
  go_wp2_with fail
  refine (HRP.out _ _ _ HAH.out HCH.out HQ3.out).mono ?_
  rintro e w4 ⟨a4, n4, c4, rfl, hO4, hB4⟩
  have HQ4 := Lib.hid (QB.out _ _ HQ3.out hB4)
  have HP4 := Lib.hid (HP3.out.below hB4)
  have HR4 := Lib.hid hO4
  clear hO4 hB4 HQ3 HP3 HAH HCH HRP
  go_wp2_with fail
  obtain ⟨R, hR⟩ : ∃ R : World → Prop, (fun W => Below w4.heap.size w4 W) = R := ⟨_, rfl⟩
  have HR : Hid (∀ W, R W ↔ Below w4.heap.size w4 W) := Lib.hid fun W => by rw [← hR]
  have RB : Hid (∀ W W', R W → Below W.heap.size W W' → R W') := Lib.hid fun W W' hW hb => by
    rw [HR.out] at hW ⊢
    exact hW.trans (hb.mono hW.size)
  have RQ : Hid (∀ W, R W → Q W) := Lib.hid fun W hW => QB.out _ _ HQ4.out ((HR.out W).1 hW)
  have RM : Hid (∀ W, R W → (W.cell? ⟨w.heap.size, 0, none⟩ = some (.int .u8 (p 0)) ∧ W.cell? ⟨w.heap.size, 1, none⟩ = some (.int .u8 (p 1)) ∧ W.cell? ⟨w.heap.size, 2, none⟩ = some (.int .u8 (p 2)) ∧ W.cell? ⟨w.heap.size, 3, none⟩ = some (.int .u8 (p 3)) ∧ W.cell? ⟨w.heap.size, 4, none⟩ = some (.int .u8 (p 4)) ∧ W.cell? ⟨w.heap.size, 5, none⟩ = some (.int .u8 (p 5)) ∧ W.cell? ⟨w.heap.size, 6, none⟩ = some (.int .u8 (p 6)) ∧ W.cell? ⟨w.heap.size, 7, none⟩ = some (.int .u8 (p 7)) ∧ W.cell? ⟨w.heap.size, 8, none⟩ = some (.slice a n c) ∧ W.cell? ⟨w.heap.size + 1, 0, none⟩ = some (.int .u8 (q 0)) ∧ W.cell? ⟨w.heap.size + 1, 1, none⟩ = some (.int .u8 (q 1)) ∧ W.cell? ⟨w.heap.size + 1, 2, none⟩ = some (.int .u8 (q 2)) ∧ W.cell? ⟨w.heap.size + 1, 3, none⟩ = some (.int .u8 (q 3)) ∧ W.cell? ⟨w.heap.size + 1, 4, none⟩ = some (.int .u8 (q 4)) ∧ W.cell? ⟨w.heap.size + 1, 5, none⟩ = some (.int .u8 (q 5)) ∧ W.cell? ⟨w.heap.size + 1, 6, none⟩ = some (.int .u8 (q 6)) ∧ W.cell? ⟨w.heap.size + 1, 7, none⟩ = some (.int .u8 (q 7)) ∧ W.cell? ⟨w.heap.size + 1, 8, none⟩ = some (.slice b m d)) ∧ R W) := Lib.hid fun W hW => by
    obtain ⟨z0, z1, z2, z3, z4, z5, z6, z7, z8⟩ := HXC.out _ (RQ.out W hW)
    obtain ⟨v0, v1, v2, v3, v4, v5, v6, v7, v8⟩ := HYC.out _ (RQ.out W hW)
    exact ⟨⟨z0, z1, z2, z3, z4, z5, z6, z7, z8, v0, v1, v2, v3, v4, v5, v6, v7, v8⟩, hW⟩
  have DR : Hid (∀ W : World, (W.cell? ⟨w.heap.size, 0, none⟩ = some (.int .u8 (p 0)) ∧ W.cell? ⟨w.heap.size, 1, none⟩ = some (.int .u8 (p 1)) ∧ W.cell? ⟨w.heap.size, 2, none⟩ = some (.int .u8 (p 2)) ∧ W.cell? ⟨w.heap.size, 3, none⟩ = some (.int .u8 (p 3)) ∧ W.cell? ⟨w.heap.size, 4, none⟩ = some (.int .u8 (p 4)) ∧ W.cell? ⟨w.heap.size, 5, none⟩ = some (.int .u8 (p 5)) ∧ W.cell? ⟨w.heap.size, 6, none⟩ = some (.int .u8 (p 6)) ∧ W.cell? ⟨w.heap.size, 7, none⟩ = some (.int .u8 (p 7)) ∧ W.cell? ⟨w.heap.size, 8, none⟩ = some (.slice a n c) ∧ W.cell? ⟨w.heap.size + 1, 0, none⟩ = some (.int .u8 (q 0)) ∧ W.cell? ⟨w.heap.size + 1, 1, none⟩ = some (.int .u8 (q 1)) ∧ W.cell? ⟨w.heap.size + 1, 2, none⟩ = some (.int .u8 (q 2)) ∧ W.cell? ⟨w.heap.size + 1, 3, none⟩ = some (.int .u8 (q 3)) ∧ W.cell? ⟨w.heap.size + 1, 4, none⟩ = some (.int .u8 (q 4)) ∧ W.cell? ⟨w.heap.size + 1, 5, none⟩ = some (.int .u8 (q 5)) ∧ W.cell? ⟨w.heap.size + 1, 6, none⟩ = some (.int .u8 (q 6)) ∧ W.cell? ⟨w.heap.size + 1, 7, none⟩ = some (.int .u8 (q 7)) ∧ W.cell? ⟨w.heap.size + 1, 8, none⟩ = some (.slice b m d)) ∧ R W → (W.drew.cell? ⟨w.heap.size, 0, none⟩ = some (.int .u8 (p 0)) ∧ W.drew.cell? ⟨w.heap.size, 1, none⟩ = some (.int .u8 (p 1)) ∧ W.drew.cell? ⟨w.heap.size, 2, none⟩ = some (.int .u8 (p 2)) ∧ W.drew.cell? ⟨w.heap.size, 3, none⟩ = some (.int .u8 (p 3)) ∧ W.drew.cell? ⟨w.heap.size, 4, none⟩ = some (.int .u8 (p 4)) ∧ W.drew.cell? ⟨w.heap.size, 5, none⟩ = some (.int .u8 (p 5)) ∧ W.drew.cell? ⟨w.heap.size, 6, none⟩ = some (.int .u8 (p 6)) ∧ W.drew.cell? ⟨w.heap.size, 7, none⟩ = some (.int .u8 (p 7)) ∧ W.drew.cell? ⟨w.heap.size, 8, none⟩ = some (.slice a n c) ∧ W.drew.cell? ⟨w.heap.size + 1, 0, none⟩ = some (.int .u8 (q 0)) ∧ W.drew.cell? ⟨w.heap.size + 1, 1, none⟩ = some (.int .u8 (q 1)) ∧ W.drew.cell? ⟨w.heap.size + 1, 2, none⟩ = some (.int .u8 (q 2)) ∧ W.drew.cell? ⟨w.heap.size + 1, 3, none⟩ = some (.int .u8 (q 3)) ∧ W.drew.cell? ⟨w.heap.size + 1, 4, none⟩ = some (.int .u8 (q 4)) ∧ W.drew.cell? ⟨w.heap.size + 1, 5, none⟩ = some (.int .u8 (q 5)) ∧ W.drew.cell? ⟨w.heap.size + 1, 6, none⟩ = some (.int .u8 (q 6)) ∧ W.drew.cell? ⟨w.heap.size + 1, 7, none⟩ = some (.int .u8 (q 7)) ∧ W.drew.cell? ⟨w.heap.size + 1, 8, none⟩ = some (.slice b m d)) ∧ R W.drew) := Lib.hid fun W hh => RM.out _ (RB.out _ _ hh.2 (Below.refl _ W).drew)
  have HSM : Hid (∀ W, R W → Calls Try.prog 12 #[.slice a2 n2 c2, .slice a4 n4 c4] W (fun e w' => e = .returned (.bool true) ∧ Below W.heap.size W w')) := Lib.hid fun W hW => by
    have hb := (HR.out W).1 hW
    refine (same_any a2 a4 n2 n4 c2 c4 PO PO W (HP4.out.below hb) (HR4.out.below hb)).mono ?_
    rintro e w' ⟨rfl, kd, rfl⟩
    exact ⟨by rw [decide_eq_true (rfl : PO = PO)], below_drewN W _ kd⟩
  obtain ⟨g, hg⟩ : ∃ g : Nat → Int, ∀ j, (Str.all [] [[p 0, p 1, p 2, p 3, p 4, p 5, p 6, p 7], [q 0, q 1, q 2, q 3, q 4, q 5, q 6, q 7]]).getD j 0 = g j := ⟨_, fun _ => rfl⟩
  obtain ⟨LB, hLB⟩ : ∃ x, Str.all [] [la, lb] = x := ⟨_, rfl⟩
  obtain ⟨nb, hnb⟩ : ∃ x, LB.length = x := ⟨_, rfl⟩
  obtain ⟨H2, hH2⟩ : ∃ x, Str.xor [p 0, p 1, p 2, p 3, p 4, p 5, p 6, p 7] [q 0, q 1, q 2, q 3, q 4, q 5, q 6, q 7] = x := ⟨_, rfl⟩
  obtain ⟨L2, hL2⟩ : ∃ x, Str.xor la lb = x := ⟨_, rfl⟩
  obtain ⟨nh, hnh⟩ : ∃ x, H2.length = x := ⟨_, rfl⟩
  obtain ⟨nl, hnl⟩ : ∃ x, L2.length = x := ⟨_, rfl⟩
  have okp : Str.Ok [p 0, p 1, p 2, p 3, p 4, p 5, p 6, p 7] := fun i => by
    rcases i with _ | _ | _ | _ | _ | _ | _ | _ | i
    all_goals first | exact HP.out _ | exact ⟨by simp, by simp⟩
  have hgb : ∀ j, 0 ≤ g j ∧ g j < 256 := fun j => by
    rw [← hg j, show Str.all [] [[p 0, p 1, p 2, p 3, p 4, p 5, p 6, p 7], [q 0, q 1, q 2, q 3, q 4, q 5, q 6, q 7]] = Str.xor (Str.xor [] [p 0, p 1, p 2, p 3, p 4, p 5, p 6, p 7]) [q 0, q 1, q 2, q 3, q 4, q 5, q 6, q 7] from rfl, Str.nil_xor okp, Str.xor_at]
    refine Str.bx_byte (okp j) ?_
    rcases j with _ | _ | _ | _ | _ | _ | _ | _ | j
    all_goals first | exact HQ8.out _ | exact ⟨by simp, by simp⟩
  have hgl : [g 0, g 1, g 2, g 3, g 4, g 5, g 6, g 7] = H2 := by
    have e : Str.all [] [[p 0, p 1, p 2, p 3, p 4, p 5, p 6, p 7], [q 0, q 1, q 2, q 3, q 4, q 5, q 6, q 7]] = H2 := by rw [← hH2]; show Str.xor (Str.xor [] [p 0, p 1, p 2, p 3, p 4, p 5, p 6, p 7]) [q 0, q 1, q 2, q 3, q 4, q 5, q 6, q 7] = _; rw [Str.nil_xor okp]
    have hl8 : H2.length = 8 := by rw [← hH2, Str.xor_len]; rfl
    refine getD_ext (by rw [hl8]; rfl) fun i hi => ?_
    rw [← e]
    rcases i with _ | _ | _ | _ | _ | _ | _ | _ | i
    · exact (hg 0).symm
    · exact (hg 1).symm
    · exact (hg 2).symm
    · exact (hg 3).symm
    · exact (hg 4).symm
    · exact (hg 5).symm
    · exact (hg 6).symm
    · exact (hg 7).symm
    · simp at hi; omega
  have hll : LB = L2 := by rw [← hLB, ← hL2]; show Str.xor (Str.xor [] la) lb = _; rw [Str.nil_xor HA.out.ok]
  have HAD : Hid (∀ W, R W → Calls Try.prog 16 #[.agg #[.int .u8 (p 0), .int .u8 (p 1), .int .u8 (p 2), .int .u8 (p 3), .int .u8 (p 4), .int .u8 (p 5), .int .u8 (p 6), .int .u8 (p 7), .slice a n c], .agg #[.int .u8 (q 0), .int .u8 (q 1), .int .u8 (q 2), .int .u8 (q 3), .int .u8 (q 4), .int .u8 (q 5), .int .u8 (q 6), .int .u8 (q 7), .slice b m d]] W (fun e w' => ∃ ab cb, e = .returned (.agg #[.int .u8 (g 0), .int .u8 (g 1), .int .u8 (g 2), .int .u8 (g 3), .int .u8 (g 4), .int .u8 (g 5), .int .u8 (g 6), .int .u8 (g 7), .slice ab nb cb]) ∧ BAt w' ab nb LB ∧ Below W.heap.size W w')) := Lib.hid fun W hW => by
    have hl := HQL.out _ (RQ.out W hW)
    refine (iadd_any p q a b n m c d la lb W (HA.out.below hl) (HB.out.below hl) HP.out HQ8.out (by omega) (by omega)).mono ?_
    rintro e w' ⟨ab, cb, rfl, hO, hB⟩
    rw [hLB, hnb] at hO
    refine ⟨ab, cb, ?_, hO.bat, hB⟩
    rw [hg 0, hg 1, hg 2, hg 3, hg 4, hg 5, hg 6, hg 7, hLB, hnb]
  have HRA : Hid (∀ W ah ch bh dh, R W → BAt W ah 8 [p 0, p 1, p 2, p 3, p 4, p 5, p 6, p 7] → BAt W bh 8 [q 0, q 1, q 2, q 3, q 4, q 5, q 6, q 7] → Calls Try.prog 17 #[.agg #[.slice ah 8 ch, .slice a n c], .agg #[.slice bh 8 dh, .slice b m d]] W (fun e w' => ∃ ah' ch' ab' cb', e = .returned (.agg #[.slice ah' nh ch', .slice ab' nl cb']) ∧ BAt w' ah' nh H2 ∧ BAt w' ab' nl L2 ∧ Below W.heap.size W w')) := Lib.hid fun W ah ch bh dh hW h1 h2 => by
    have hl := HQL.out _ (RQ.out W hW)
    refine (radd12_any ah a bh b 8 n ch c 8 m dh d _ la _ lb W h1 (HA.out.below hl) h2 (HB.out.below hl) (by omega) (by omega) (by omega) (by omega)).mono ?_
    rintro e w' ⟨a1, c1, a2, c2, rfl, hO, hO', hB⟩
    rw [hH2, hnh] at hO; rw [hL2, hnl] at hO'
    exact ⟨a1, c1, a2, c2, by rw [hH2, hL2, hnh, hnl], hO.bat, hO'.bat, hB⟩
  have HLK : Hid (∀ W ab cb ah' ch' ab' cb', BAt W ab nb LB → BAt W ah' nh H2 → BAt W ab' nl L2 → Calls Try.prog 10 #[.agg #[.int .u8 (g 0), .int .u8 (g 1), .int .u8 (g 2), .int .u8 (g 3), .int .u8 (g 4), .int .u8 (g 5), .int .u8 (g 6), .int .u8 (g 7), .slice ab nb cb], .agg #[.slice ah' nh ch', .slice ab' nl cb']] W (ValB (.bool true) W)) := Lib.hid fun W ab cb ah' ch' ab' cb' h1 h2 h3 => by
    have := like_any (g 0) (g 1) (g 2) (g 3) (g 4) (g 5) (g 6) (g 7) ab ah' ab' nb cb nh ch' nl cb' LB H2 L2 W h1 h2 h3 (hgb 0) (hgb 1) (hgb 2) (hgb 3) (hgb 4) (hgb 5) (hgb 6) (hgb 7)
    rw [decide_eq_true hgl, decide_eq_true hll] at this
    exact this
  have hcur := RM.out w4 (by rw [HR.out]; exact Below.refl _ _)
  clear hR hg hLB hnb hH2 hL2 hnh hnl okp hgb hgl hll HP4 HR4
  go_wp2_with fail
  go_region_held3 (fun W : World => (W.cell? ⟨w.heap.size, 0, none⟩ = some (.int .u8 (p 0)) ∧ W.cell? ⟨w.heap.size, 1, none⟩ = some (.int .u8 (p 1)) ∧ W.cell? ⟨w.heap.size, 2, none⟩ = some (.int .u8 (p 2)) ∧ W.cell? ⟨w.heap.size, 3, none⟩ = some (.int .u8 (p 3)) ∧ W.cell? ⟨w.heap.size, 4, none⟩ = some (.int .u8 (p 4)) ∧ W.cell? ⟨w.heap.size, 5, none⟩ = some (.int .u8 (p 5)) ∧ W.cell? ⟨w.heap.size, 6, none⟩ = some (.int .u8 (p 6)) ∧ W.cell? ⟨w.heap.size, 7, none⟩ = some (.int .u8 (p 7)) ∧ W.cell? ⟨w.heap.size, 8, none⟩ = some (.slice a n c) ∧ W.cell? ⟨w.heap.size + 1, 0, none⟩ = some (.int .u8 (q 0)) ∧ W.cell? ⟨w.heap.size + 1, 1, none⟩ = some (.int .u8 (q 1)) ∧ W.cell? ⟨w.heap.size + 1, 2, none⟩ = some (.int .u8 (q 2)) ∧ W.cell? ⟨w.heap.size + 1, 3, none⟩ = some (.int .u8 (q 3)) ∧ W.cell? ⟨w.heap.size + 1, 4, none⟩ = some (.int .u8 (q 4)) ∧ W.cell? ⟨w.heap.size + 1, 5, none⟩ = some (.int .u8 (q 5)) ∧ W.cell? ⟨w.heap.size + 1, 6, none⟩ = some (.int .u8 (q 6)) ∧ W.cell? ⟨w.heap.size + 1, 7, none⟩ = some (.int .u8 (q 7)) ∧ W.cell? ⟨w.heap.size + 1, 8, none⟩ = some (.slice b m d)) ∧ R W) (first | with_reducible assumption | with_reducible exact DR.out _ (by with_reducible assumption))
    (first
      | (go_at_call 12
         (with_reducible refine (HSM.out _ (And.right (by with_reducible assumption))).mono ?_)
         rintro e w5 ⟨rfl, hB5⟩
         have hS5 := RM.out _ (RB.out _ _ (And.right (by with_reducible assumption)) hB5))
      | (go_at_call 16
         (with_reducible refine (HAD.out _ (And.right (by with_reducible assumption))).mono ?_)
         rintro e w6 ⟨a6, c6, rfl, hO6, hB6⟩
         have hS6 := RM.out _ (RB.out _ _ (And.right (by with_reducible assumption)) hB6))
      | (go_at_call_of 15 (Value.agg #[.int .u8 (p 0), .int .u8 (p 1), .int .u8 (p 2), .int .u8 (p 3), .int .u8 (p 4), .int .u8 (p 5), .int .u8 (p 6), .int .u8 (p 7), .slice a n c])
         (with_reducible refine (HAS.out _).mono ?_)
         rintro e w7 ⟨a7, c7, rfl, hO7, hB7⟩
         have hS7 := RM.out _ (RB.out _ _ (And.right (by with_reducible assumption)) hB7)
         have HO6 := Lib.hid (hO6.below hB7)
         have HO7 := Lib.hid hO7.bat)
      | (go_at_call_of 15 (Value.agg #[.int .u8 (q 0), .int .u8 (q 1), .int .u8 (q 2), .int .u8 (q 3), .int .u8 (q 4), .int .u8 (q 5), .int .u8 (q 6), .int .u8 (q 7), .slice b m d])
         (with_reducible refine (HAT.out _).mono ?_)
         rintro e w8 ⟨a8, c8, rfl, hO8, hB8⟩
         have hS8 := RM.out _ (RB.out _ _ (And.right (by with_reducible assumption)) hB8)
         have HO6' := Lib.hid (HO6.out.below hB8)
         have HO7' := Lib.hid (HO7.out.below hB8)
         have HO8 := Lib.hid hO8.bat)
      | (go_at_call 17
         (with_reducible refine (HRA.out _ _ _ _ _ (And.right (by with_reducible assumption)) HO7'.out HO8.out).mono ?_)
         rintro e w9 ⟨a9, c9, a10, c10, rfl, hO9, hO10, hB9⟩
         have hS9 := RM.out _ (RB.out _ _ (And.right (by with_reducible assumption)) hB9)
         have HO6'' := Lib.hid (HO6'.out.below hB9))
      | (go_at_call 10
         (with_reducible refine (HLK.out _ _ _ _ _ _ _ HO6''.out hO9 hO10).mono ?_)
         rintro e w11 ⟨rfl, hB11⟩
         have hS11 := RM.out _ (RB.out _ _ (And.right (by with_reducible assumption)) hB11)))
  have HQ5 := Lib.hid (RQ.out _ hS11.2)
  clear hS5 hS6 hS7 hS8 hS9 hS11 hcur hO6 hO7 hO8 hO9 hO10 hB5 hB6 hB7 hB8 hB9 hB11 HO6 HO6' HO6'' HO7 HO7' HO8 HRA HLK HAD HSM DR RM RQ RB HR HQ4
  obtain ⟨x0, x1, x2, x3, x4, x5, x6, x7, x8⟩ := HXC.out _ HQ5.out
  obtain ⟨y0, y1, y2, y3, y4, y5, y6, y7, y8⟩ := HYC.out _ HQ5.out
  have hgp := rgap_any a none n 0 c 0 la [] w11 (HA.out.below (HQL.out _ HQ5.out)) (BAt.none _) (by omega) (by omega)
  have heq := fun w => eq8 (p 0) (p 1) (p 2) (p 3) (p 4) (p 5) (p 6) (p 7) 0 0 0 0 0 0 0 0 w
  have hem : ∀ W, Q W → _ := fun W h3 => empty_any (p 0) (p 1) (p 2) (p 3) (p 4) (p 5) (p 6) (p 7) a n c la W (HA.out.below (HQL.out _ h3))
  obtain ⟨gp, hgpe⟩ : ∃ x, Str.gap la [] = x := ⟨_, rfl⟩
  rw [hgpe] at hgp hem
  obtain ⟨gz, hgz⟩ : ∃ x, decide (gp < 0) = x := ⟨_, rfl⟩
  obtain ⟨hz, hhz⟩ : ∃ x, decide ([p 0, p 1, p 2, p 3, p 4, p 5, p 6, p 7] = [0, 0, 0, 0, 0, 0, 0, 0]) = x := ⟨_, rfl⟩
  rw [hgz, hhz] at hem
  rw [hhz] at heq
  obtain ⟨zB, hzB⟩ : ∃ x, (hz && gz) = x := ⟨_, rfl⟩
  rw [hzB] at hem
  have HEM := Lib.hid hem; have HGP := Lib.hid hgp; have HZB := Lib.hid hzB; have HGZ := Lib.hid hgz
  clear hem hhz hgpe hgp hzB hgz
  go_upto_region 9 with (fail)
  go_cut [13] from 62 to 71 (fun x wz => x = .bool zB ∧ wz = w11)
  case first =>
    have hgz := HGZ.out
    have hzB := HZB.out
    cases gz
    · have hgn : ¬ gp < 0 := by simpa using hgz
      have hzf : zB = false := by rw [← hzB]; simp
      clear hgz hzB
      go_wp2_with fail
      refine (HGP.out).mono ?_
      rintro e w12 ⟨rfl, hw12⟩
      subst hw12
      go_wp2_with fail
      go_meet
      exact ⟨by rw [hzf], rfl⟩
    · have hgn : gp < 0 := by simpa using hgz
      have hzf : zB = hz := by rw [← hzB]; simp
      subst hzf
      clear hgz hzB
      go_wp2_with fail
      refine (HGP.out).mono ?_
      rintro e w12 ⟨rfl, hw12⟩
      subst hw12
      go_wp2_with fail
      go_meet
      exact ⟨rfl, rfl⟩
  case rest =>
  obtain ⟨rfl, hwc⟩ := hcut
  subst hwc
  clear heq HGP HGZ HZB x0 x1 x2 x3 x4 x5 x6 x7 x8 y0 y1 y2 y3 y4 y5 y6 y7 y8
  obtain ⟨R, hR⟩ : ∃ R : World → Prop, (fun W => Below wc.heap.size wc W) = R := ⟨_, rfl⟩
  have HR : Hid (∀ W, R W ↔ Below wc.heap.size wc W) := Lib.hid fun W => by rw [← hR]
  have RB : Hid (∀ W W', R W → Below W.heap.size W W' → R W') := Lib.hid fun W W' hW hb => by
    rw [HR.out] at hW ⊢
    exact hW.trans (hb.mono hW.size)
  have RQ : Hid (∀ W, R W → Q W) := Lib.hid fun W hW => QB.out _ _ HQ5.out ((HR.out W).1 hW)
  have RM : Hid (∀ W, R W → (W.cell? ⟨w.heap.size, 0, none⟩ = some (.int .u8 (p 0)) ∧ W.cell? ⟨w.heap.size, 1, none⟩ = some (.int .u8 (p 1)) ∧ W.cell? ⟨w.heap.size, 2, none⟩ = some (.int .u8 (p 2)) ∧ W.cell? ⟨w.heap.size, 3, none⟩ = some (.int .u8 (p 3)) ∧ W.cell? ⟨w.heap.size, 4, none⟩ = some (.int .u8 (p 4)) ∧ W.cell? ⟨w.heap.size, 5, none⟩ = some (.int .u8 (p 5)) ∧ W.cell? ⟨w.heap.size, 6, none⟩ = some (.int .u8 (p 6)) ∧ W.cell? ⟨w.heap.size, 7, none⟩ = some (.int .u8 (p 7)) ∧ W.cell? ⟨w.heap.size, 8, none⟩ = some (.slice a n c) ∧ W.cell? ⟨w.heap.size + 1, 0, none⟩ = some (.int .u8 (q 0)) ∧ W.cell? ⟨w.heap.size + 1, 1, none⟩ = some (.int .u8 (q 1)) ∧ W.cell? ⟨w.heap.size + 1, 2, none⟩ = some (.int .u8 (q 2)) ∧ W.cell? ⟨w.heap.size + 1, 3, none⟩ = some (.int .u8 (q 3)) ∧ W.cell? ⟨w.heap.size + 1, 4, none⟩ = some (.int .u8 (q 4)) ∧ W.cell? ⟨w.heap.size + 1, 5, none⟩ = some (.int .u8 (q 5)) ∧ W.cell? ⟨w.heap.size + 1, 6, none⟩ = some (.int .u8 (q 6)) ∧ W.cell? ⟨w.heap.size + 1, 7, none⟩ = some (.int .u8 (q 7)) ∧ W.cell? ⟨w.heap.size + 1, 8, none⟩ = some (.slice b m d)) ∧ R W) := Lib.hid fun W hW => by
    obtain ⟨z0, z1, z2, z3, z4, z5, z6, z7, z8⟩ := HXC.out _ (RQ.out W hW)
    obtain ⟨v0, v1, v2, v3, v4, v5, v6, v7, v8⟩ := HYC.out _ (RQ.out W hW)
    exact ⟨⟨z0, z1, z2, z3, z4, z5, z6, z7, z8, v0, v1, v2, v3, v4, v5, v6, v7, v8⟩, hW⟩
  have DR : Hid (∀ W : World, (W.cell? ⟨w.heap.size, 0, none⟩ = some (.int .u8 (p 0)) ∧ W.cell? ⟨w.heap.size, 1, none⟩ = some (.int .u8 (p 1)) ∧ W.cell? ⟨w.heap.size, 2, none⟩ = some (.int .u8 (p 2)) ∧ W.cell? ⟨w.heap.size, 3, none⟩ = some (.int .u8 (p 3)) ∧ W.cell? ⟨w.heap.size, 4, none⟩ = some (.int .u8 (p 4)) ∧ W.cell? ⟨w.heap.size, 5, none⟩ = some (.int .u8 (p 5)) ∧ W.cell? ⟨w.heap.size, 6, none⟩ = some (.int .u8 (p 6)) ∧ W.cell? ⟨w.heap.size, 7, none⟩ = some (.int .u8 (p 7)) ∧ W.cell? ⟨w.heap.size, 8, none⟩ = some (.slice a n c) ∧ W.cell? ⟨w.heap.size + 1, 0, none⟩ = some (.int .u8 (q 0)) ∧ W.cell? ⟨w.heap.size + 1, 1, none⟩ = some (.int .u8 (q 1)) ∧ W.cell? ⟨w.heap.size + 1, 2, none⟩ = some (.int .u8 (q 2)) ∧ W.cell? ⟨w.heap.size + 1, 3, none⟩ = some (.int .u8 (q 3)) ∧ W.cell? ⟨w.heap.size + 1, 4, none⟩ = some (.int .u8 (q 4)) ∧ W.cell? ⟨w.heap.size + 1, 5, none⟩ = some (.int .u8 (q 5)) ∧ W.cell? ⟨w.heap.size + 1, 6, none⟩ = some (.int .u8 (q 6)) ∧ W.cell? ⟨w.heap.size + 1, 7, none⟩ = some (.int .u8 (q 7)) ∧ W.cell? ⟨w.heap.size + 1, 8, none⟩ = some (.slice b m d)) ∧ R W → (W.drew.cell? ⟨w.heap.size, 0, none⟩ = some (.int .u8 (p 0)) ∧ W.drew.cell? ⟨w.heap.size, 1, none⟩ = some (.int .u8 (p 1)) ∧ W.drew.cell? ⟨w.heap.size, 2, none⟩ = some (.int .u8 (p 2)) ∧ W.drew.cell? ⟨w.heap.size, 3, none⟩ = some (.int .u8 (p 3)) ∧ W.drew.cell? ⟨w.heap.size, 4, none⟩ = some (.int .u8 (p 4)) ∧ W.drew.cell? ⟨w.heap.size, 5, none⟩ = some (.int .u8 (p 5)) ∧ W.drew.cell? ⟨w.heap.size, 6, none⟩ = some (.int .u8 (p 6)) ∧ W.drew.cell? ⟨w.heap.size, 7, none⟩ = some (.int .u8 (p 7)) ∧ W.drew.cell? ⟨w.heap.size, 8, none⟩ = some (.slice a n c) ∧ W.drew.cell? ⟨w.heap.size + 1, 0, none⟩ = some (.int .u8 (q 0)) ∧ W.drew.cell? ⟨w.heap.size + 1, 1, none⟩ = some (.int .u8 (q 1)) ∧ W.drew.cell? ⟨w.heap.size + 1, 2, none⟩ = some (.int .u8 (q 2)) ∧ W.drew.cell? ⟨w.heap.size + 1, 3, none⟩ = some (.int .u8 (q 3)) ∧ W.drew.cell? ⟨w.heap.size + 1, 4, none⟩ = some (.int .u8 (q 4)) ∧ W.drew.cell? ⟨w.heap.size + 1, 5, none⟩ = some (.int .u8 (q 5)) ∧ W.drew.cell? ⟨w.heap.size + 1, 6, none⟩ = some (.int .u8 (q 6)) ∧ W.drew.cell? ⟨w.heap.size + 1, 7, none⟩ = some (.int .u8 (q 7)) ∧ W.drew.cell? ⟨w.heap.size + 1, 8, none⟩ = some (.slice b m d)) ∧ R W.drew) := Lib.hid fun W hh => RM.out _ (RB.out _ _ hh.2 (Below.refl _ W).drew)
  obtain ⟨sB, hsB⟩ : ∃ x, (decide ([p 0, p 1, p 2, p 3, p 4, p 5, p 6, p 7] = [q 0, q 1, q 2, q 3, q 4, q 5, q 6, q 7]) && decide (Str.gap la lb < 0)) = x := ⟨_, rfl⟩
  have HSM : Hid (∀ W, R W → Calls Try.prog 19 #[.agg #[.int .u8 (p 0), .int .u8 (p 1), .int .u8 (p 2), .int .u8 (p 3), .int .u8 (p 4), .int .u8 (p 5), .int .u8 (p 6), .int .u8 (p 7), .slice a n c], .agg #[.int .u8 (q 0), .int .u8 (q 1), .int .u8 (q 2), .int .u8 (q 3), .int .u8 (q 4), .int .u8 (q 5), .int .u8 (q 6), .int .u8 (q 7), .slice b m d]] W (ValB (.bool sB) W)) := Lib.hid fun W hW => by
    have hl := HQL.out _ (RQ.out W hW)
    rw [← hsB]
    exact isame_any (p 0) (p 1) (p 2) (p 3) (p 4) (p 5) (p 6) (p 7) (q 0) (q 1) (q 2) (q 3) (q 4) (q 5) (q 6) (q 7) a b n m c d la lb W (HA.out.below hl) (HB.out.below hl)
  have HRS : Hid (∀ W ah ch bh dh, R W → BAt W ah 8 [p 0, p 1, p 2, p 3, p 4, p 5, p 6, p 7] → BAt W bh 8 [q 0, q 1, q 2, q 3, q 4, q 5, q 6, q 7] → Calls Try.prog 20 #[.agg #[.slice ah 8 ch, .slice a n c], .agg #[.slice bh 8 dh, .slice b m d]] W (ValB (.bool sB) W)) := Lib.hid fun W ah ch bh dh hW h1 h2 => by
    have hl := HQL.out _ (RQ.out W hW)
    rw [← hsB]
    exact rsame12_any ah a bh b 8 n ch c 8 m dh d _ la _ lb W h1 (HA.out.below hl) h2 (HB.out.below hl) (by omega) (by omega)
  have HLE : Hid (∀ W, Calls Try.prog 11 #[.agg #[.int .u8 (p 0), .int .u8 (p 1), .int .u8 (p 2), .int .u8 (p 3), .int .u8 (p 4), .int .u8 (p 5), .int .u8 (p 6), .int .u8 (p 7), .slice a n c]] W (ValB (.int .i64 (p 6 * 256 + p 7)) W)) := Lib.hid fun W => length_any (p 0) (p 1) (p 2) (p 3) (p 4) (p 5) (p 6) (p 7) a n c W (HP.out 6) (HP.out 7)
  have bp6 := HP.out 6
  have bp7 := HP.out 7
  have hm6 : IntKind.i64.wrap (256 * p 6) = 256 * p 6 := by rw [IntKind.wrap_i64]; omega
  have hw67 : IntKind.i64.wrap (256 * p 6 + p 7) = p 6 * 256 + p 7 := by rw [IntKind.wrap_i64]; omega
  have hw68 : 256 * p 6 + p 7 = p 6 * 256 + p 7 := by omega
  have hw69 : IntKind.i64.wrap (p 6 * 256 + p 7) = p 6 * 256 + p 7 := by rw [IntKind.wrap_i64]; omega
  have hw70 : (p 6 * 256 + p 7 == p 6 * 256 + p 7) = true := by simp
  have hw6 : IntKind.i64.wrap (p 6) = p 6 := by rw [IntKind.wrap_i64]; omega
  have hw7 : IntKind.i64.wrap (p 7) = p 7 := by rw [IntKind.wrap_i64]; omega
  have hcur := RM.out wc (by rw [HR.out]; exact Below.refl _ _)
  have hse : (sB == sB) = true := by simp
  have hze : (zB == zB) = true := by simp
  clear hR hsB
  go_wp2_with fail
  go_region_held3 (fun W : World => (W.cell? ⟨w.heap.size, 0, none⟩ = some (.int .u8 (p 0)) ∧ W.cell? ⟨w.heap.size, 1, none⟩ = some (.int .u8 (p 1)) ∧ W.cell? ⟨w.heap.size, 2, none⟩ = some (.int .u8 (p 2)) ∧ W.cell? ⟨w.heap.size, 3, none⟩ = some (.int .u8 (p 3)) ∧ W.cell? ⟨w.heap.size, 4, none⟩ = some (.int .u8 (p 4)) ∧ W.cell? ⟨w.heap.size, 5, none⟩ = some (.int .u8 (p 5)) ∧ W.cell? ⟨w.heap.size, 6, none⟩ = some (.int .u8 (p 6)) ∧ W.cell? ⟨w.heap.size, 7, none⟩ = some (.int .u8 (p 7)) ∧ W.cell? ⟨w.heap.size, 8, none⟩ = some (.slice a n c) ∧ W.cell? ⟨w.heap.size + 1, 0, none⟩ = some (.int .u8 (q 0)) ∧ W.cell? ⟨w.heap.size + 1, 1, none⟩ = some (.int .u8 (q 1)) ∧ W.cell? ⟨w.heap.size + 1, 2, none⟩ = some (.int .u8 (q 2)) ∧ W.cell? ⟨w.heap.size + 1, 3, none⟩ = some (.int .u8 (q 3)) ∧ W.cell? ⟨w.heap.size + 1, 4, none⟩ = some (.int .u8 (q 4)) ∧ W.cell? ⟨w.heap.size + 1, 5, none⟩ = some (.int .u8 (q 5)) ∧ W.cell? ⟨w.heap.size + 1, 6, none⟩ = some (.int .u8 (q 6)) ∧ W.cell? ⟨w.heap.size + 1, 7, none⟩ = some (.int .u8 (q 7)) ∧ W.cell? ⟨w.heap.size + 1, 8, none⟩ = some (.slice b m d)) ∧ R W) (first | with_reducible assumption | with_reducible exact DR.out _ (by with_reducible assumption))
    (first
      | (go_at_call 19
         (with_reducible refine (HSM.out _ (And.right (by with_reducible assumption))).mono ?_)
         rintro e w5 ⟨rfl, hB5⟩
         have hS5 := RM.out _ (RB.out _ _ (And.right (by with_reducible assumption)) hB5))
      | (go_at_call_of 15 (Value.agg #[.int .u8 (p 0), .int .u8 (p 1), .int .u8 (p 2), .int .u8 (p 3), .int .u8 (p 4), .int .u8 (p 5), .int .u8 (p 6), .int .u8 (p 7), .slice a n c])
         (with_reducible refine (HAS.out _).mono ?_)
         rintro e w7 ⟨a7, c7, rfl, hO7, hB7⟩
         have hS7 := RM.out _ (RB.out _ _ (And.right (by with_reducible assumption)) hB7)
         have HO7 := Lib.hid hO7.bat)
      | (go_at_call_of 15 (Value.agg #[.int .u8 (q 0), .int .u8 (q 1), .int .u8 (q 2), .int .u8 (q 3), .int .u8 (q 4), .int .u8 (q 5), .int .u8 (q 6), .int .u8 (q 7), .slice b m d])
         (with_reducible refine (HAT.out _).mono ?_)
         rintro e w8 ⟨a8, c8, rfl, hO8, hB8⟩
         have hS8 := RM.out _ (RB.out _ _ (And.right (by with_reducible assumption)) hB8)
         have HO7' := Lib.hid (HO7.out.below hB8)
         have HO8 := Lib.hid hO8.bat)
      | (go_at_call 20
         (with_reducible refine (HRS.out _ _ _ _ _ (And.right (by with_reducible assumption)) HO7'.out HO8.out).mono ?_)
         rintro e w9 ⟨rfl, hB9⟩
         have hS9 := RM.out _ (RB.out _ _ (And.right (by with_reducible assumption)) hB9))
      | (go_at_call 21
         (with_reducible refine (HEM.out _ (RQ.out _ (And.right (by with_reducible assumption)))).mono ?_)
         rintro e w10 ⟨rfl, hB10⟩
         have hS10 := RM.out _ (RB.out _ _ (And.right (by with_reducible assumption)) hB10))
      | (go_at_call 11
         (with_reducible refine (HLE.out _).mono ?_)
         rintro e w11 ⟨rfl, hB11⟩
         have hS11 := RM.out _ (RB.out _ _ (And.right (by with_reducible assumption)) hB11)))
  have HFIN := Lib.hid (HQL.out _ (RQ.out _ hS11.2))
  clear hS5 hS7 hS8 hS9 hS10 hS11 hcur hB5 hB7 hB8 hB9 hB10 hB11 hO7 hO8 HO7 HO7' HO8
  go_wp2
  go_ret
  exact ⟨rfl, HFIN.out⟩
end Go.Proofs.Ytppgjodehphaeaa

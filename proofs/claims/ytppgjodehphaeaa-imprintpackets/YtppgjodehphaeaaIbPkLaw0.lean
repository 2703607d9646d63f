
/-
  confluxref12.Packet.
-/
import Derived.Test.YtppgjodehphaeaaIbRP1
import Derived.Test.YtppgjodehphaeaaIbPkt
import Derived.Test.YtppgjodehphaeaaRtpWrite
import Derived.Deep.DeepCutAuto
namespace Go.Proofs.Ytppgjodehphaeaa
open Go.RowKit Go.Shelf
set_option linter.unusedVariables false
set_option linter.unusedSimpArgs false
theorem rat_five (w : World) (a b e g i : Option Addr) (n m k j h c d f p q : Nat) (la lb le lg li : List Int) (ha : BAt w a n la) (hb : BAt w b m lb) (he : BAt w e k le) (hg : BAt w g j lg) (hi : BAt w i h li) (hn : n ≤ 140737488355328) (hm : m ≤ 140737488355328) (hk : k ≤ 140737488355328) (hj : j ≤ 140737488355328) (hh : h ≤ 140737488355328) :
    RAt (w.alloc (.cells #[.slice a n c, .slice b m d, .slice e k f, .slice g j p, .slice i h q] 22)) (some ⟨w.heap.size, 0, none⟩) 5 [la, lb, le, lg, li] := by
  have hbel : Below w.heap.size w (w.alloc (.cells #[.slice a n c, .slice b m d, .slice e k f, .slice g j p, .slice i h q] 22)) := (Below.refl _ w).alloc (Nat.le_refl _) _
  refine ⟨rfl, w.heap.size, 0, fun x => if x = 0 then a else if x = 1 then b else if x = 2 then e else if x = 3 then g else i, fun x => if x = 0 then n else if x = 1 then m else if x = 2 then k else if x = 3 then j else h, fun x => if x = 0 then c else if x = 1 then d else if x = 2 then f else if x = 3 then p else q, fun x hx => ?_⟩
  match x, hx with
  | 0, _ => exact ⟨rfl, by simp, by simp [go_sem], ha.below hbel, hn⟩
  | 1, _ => exact ⟨rfl, by simp, by simp [go_sem], hb.below hbel, hm⟩
  | 2, _ => exact ⟨rfl, by simp, by simp [go_sem], he.below hbel, hk⟩
  | 3, _ => exact ⟨rfl, by simp, by simp [go_sem], hg.below hbel, hj⟩
  | 4, _ => exact ⟨rfl, by simp, by simp [go_sem], hi.below hbel, hh⟩
theorem join5g (w : World) (z : Nat) (hz : z = w.heap.size) (a b e g i : Option Addr) (n m k j h c d f p q : Nat) (la lb le lg li : List Int) (ha : BAt w a n la) (hb : BAt w b m lb) (he : BAt w e k le) (hg : BAt w g j lg) (hi : BAt w i h li) (hn : n ≤ 1000000) (hm : m ≤ 1000000) (hk : k ≤ 1000000) (hj : j ≤ 1000000) (hh : h ≤ 1000000) :
    Calls Try.prog 35 #[.slice (some ⟨z, 0, none⟩) 5 5] (w.alloc (.cells #[.slice a n c, .slice b m d, .slice e k f, .slice g j p, .slice i h q] 22)) (NewB (n + (m + (k + (j + h)))) (la ++ (lb ++ (le ++ (lg ++ li)))) (w.alloc (.cells #[.slice a n c, .slice b m d, .slice e k f, .slice g j p, .slice i h q] 22))) := by
  subst hz
  have l1 := ha.len; have l2 := hb.len; have l3 := he.len; have l4 := hg.len; have l5 := hi.len
  have := join_any (some ⟨w.heap.size, 0, none⟩) 5 5 [la, lb, le, lg, li] _ (rat_five w a b e g i n m k j h c d f p q la lb le lg li ha hb he hg hi (by omega) (by omega) (by omega) (by omega) (by omega)) (by decide) (fun l hl => by simp at hl; rcases hl with rfl | rfl | rfl | rfl | rfl <;> omega) (n + (m + (k + (j + h)))) (by simp; omega)
  simpa using this
/-- What the reference's Packet leaves. -/
def RPkOut (f : Int) (l : List Int) (w : World) (e : Ending) (w' : World) : Prop :=
  ∃ a n c, e = .returned (.tuple #[.slice a n c, .int .i64 f]) ∧ BAt w' a n l ∧ Below w.heap.size w w'
set_option maxHeartbeats 2000000 in
set_option maxRecDepth 100000 in
theorem rpacket_any (h0 h1 h2 h3 h4 h5 h6 h7 : Int) (ah a : Option Addr) (ch n c : Nat) (la : List Int) (sq ss : Int) (w : World) (hh : BAt w ah 8 [h0, h1, h2, h3, h4, h5, h6, h7]) (ha : BAt w a n la) (hch : 8 ≤ ch) (hnc : n ≤ c) (hn : n ≤ 100000) (b0 : 0 ≤ h0 ∧ h0 < 256) (b1 : 0 ≤ h1 ∧ h1 < 256) (b2 : 0 ≤ h2 ∧ h2 < 256) (b3 : 0 ≤ h3 ∧ h3 < 256) (b4 : 0 ≤ h4 ∧ h4 < 256) (b5 : 0 ≤ h5 ∧ h5 < 256) (b6 : 0 ≤ h6 ∧ h6 < 256) (b7 : 0 ≤ h7 ∧ h7 < 256) (hq : 0 ≤ sq ∧ sq < 65536) (hs : 0 ≤ ss ∧ ss < 4294967296) :
    Calls Try.prog 14 #[.agg #[.slice ah 8 ch, .slice a n c], .int .u16 sq, .int .u32 ss] w (RPkOut (ipc h0 h1 h2 h3 h4 h5 h6 h7 la sq ss) (ipo h0 h1 h2 h3 h4 h5 h6 h7 la sq ss) w) := by
  have hlen := ha.len
  obtain ⟨k, hk⟩ : ∃ k, ipl h6 h7 = k := ⟨_, rfl⟩
  have hkz : h6 * 256 + h7 = (k : Int) := by unfold ipl at hk; omega
  obtain ⟨hb, ho, hhr⟩ := hh.row
  obtain ⟨rfl, hbl, d0, _⟩ := hhr 0 (by omega)
  obtain ⟨_, _, d1, _⟩ := hhr 1 (by omega)
  obtain ⟨_, _, d6, _⟩ := hhr 6 (by omega)
  obtain ⟨_, _, d7, _⟩ := hhr 7 (by omega)
  simp only [List.getD_cons_zero, List.getD_cons_succ, Nat.add_zero] at d0 d1 d6 d7
  obtain ⟨wx, hwx⟩ : ∃ u, w.alloc (.cells #[.slice (some ⟨hb, ho, none⟩) 8 ch, .slice a n c] 32) = u := ⟨_, rfl⟩
  have kx : Below w.heap.size w wx := by rw [← hwx]; exact (Below.refl _ w).alloc (Nat.le_refl _) _
  have hx : wx.heap[w.heap.size]? = some (.cells #[.slice (some ⟨hb, ho, none⟩) 8 ch, .slice a n c] 32 (0, 0)) := by rw [← hwx]; exact lit_new rfl
  -- what stays: the box, the head's bytes
  have HST : Hid (∀ W, Below wx.heap.size wx W → (W.cell? ⟨w.heap.size, 0, none⟩ = some (.slice (some ⟨hb, ho, none⟩) 8 ch) ∧ W.cell? ⟨w.heap.size, 1, none⟩ = some (.slice a n c) ∧ W.cell? ⟨hb, ho, none⟩ = some (.int .u8 h0) ∧ W.cell? ⟨hb, ho + 1, none⟩ = some (.int .u8 h1) ∧ W.cell? ⟨hb, ho + 6, none⟩ = some (.int .u8 h6) ∧ W.cell? ⟨hb, ho + 7, none⟩ = some (.int .u8 h7))) := Lib.hid fun W hW => by
    have hx' := (hW.block _ (Array.getElem?_eq_some_iff.1 hx).1).trans hx
    have hb2 : Below w.heap.size w W := kx.trans (hW.mono kx.size)
    refine ⟨?_, ?_, (hb2.cell (p := ⟨hb, ho, none⟩) hbl).trans d0, (hb2.cell (p := ⟨hb, ho + 1, none⟩) hbl).trans d1, (hb2.cell (p := ⟨hb, ho + 6, none⟩) hbl).trans d6, (hb2.cell (p := ⟨hb, ho + 7, none⟩) hbl).trans d7⟩
    · rw [cell_of_row W _ 0 _ _ _ hx']; rfl
    · rw [cell_of_row W _ 1 _ _ _ hx']; rfl
  have HLOW : Hid (∀ W, Below wx.heap.size wx W → Below w.heap.size w W) := Lib.hid fun W hW => kx.trans (hW.mono kx.size)
  obtain ⟨x0, x1, e0, e1, e6, e7⟩ := HST.out wx (Below.refl _ wx)
  have hm6 : IntKind.i64.wrap (256 * h6) = 256 * h6 := by rw [IntKind.wrap_i64]; omega
  have hk6 : 256 * h6 + h7 = (k : Int) := by omega
  have hwk : IntKind.i64.wrap (k : Int) = (k : Int) := by rw [IntKind.wrap_i64]; omega
  have hwh6 : IntKind.i64.wrap h6 = h6 := by rw [IntKind.wrap_i64]; omega
  have hwh7 : IntKind.i64.wrap h7 = h7 := by rw [IntKind.wrap_i64]; omega
  have HWX := Lib.hid hwx; have HK := Lib.hid hk; have HHH := Lib.hid hh; have HA := Lib.hid ha; have HLEN := Lib.hid hlen
  obtain ⟨PC, hPC⟩ : ∃ x, ipc h0 h1 h2 h3 h4 h5 h6 h7 la sq ss = x := ⟨_, rfl⟩
  obtain ⟨PO, hPO⟩ : ∃ x, ipo h0 h1 h2 h3 h4 h5 h6 h7 la sq ss = x := ⟨_, rfl⟩
  rw [hPC, hPO]
  have HPC := Lib.hid hPC; have HPO := Lib.hid hPO
  clear hwx hhr d0 d1 d6 d7 kx hx hk hh ha hlen hPC hPO
  go_enter Try.func14, Try.ntmps14
  go_wp2_with fail
  rw [HWX.out]
  go_quiet (fail)
  have HB2 := Lib.hid (below_drewN wx wx.heap.size nq)
  generalize World.drewN wx nq = w2 at HB2 ⊢
  clear x0 x1 e0 e1 e6 e7
  obtain ⟨x0, x1, e0, e1, e6, e7⟩ := HST.out w2 HB2.out
  by_cases hlt : n < k
  · have hltz : (n : Int) < (k : Int) := by omega
    go_wp2_with fail
    refine bodyPost_ret (v := .tuple #[.slice none 0 0, .int .i64 42]) (by simp [results, Try.results14, go_sem]) rfl ?_
    refine ⟨none, 0, 0, ?_, ?_, HLOW.out _ HB2.out⟩
    · rw [← HPC.out]; unfold ipc; rw [if_pos (by rw [HLEN.out, HK.out]; omega)]
    · rw [← HPO.out]; unfold ipo ipc; rw [if_neg (by rw [if_pos (by rw [HLEN.out, HK.out]; omega)]; decide)]; exact BAt.none _
  have hltz : ¬ (n : Int) < (k : Int) := by omega
  by_cases h1488 : 1488 < k
  · have h2z : (1488 : Int) < (k : Int) := by omega
    have hp : pcodeF (12 + k) (ipb h0 h1 h2 h3 h4 h5 h6 h7 la k sq ss) ≠ 0 := by unfold pcodeF; rw [if_pos (by omega)]; decide
    have hc42 : ipc h0 h1 h2 h3 h4 h5 h6 h7 la sq ss = 42 := by unfold ipc; rw [HK.out, HLEN.out, if_neg (by omega), if_neg hp]
    have HC := Lib.hid hc42
    clear hp hc42
    go_wp2_with fail
    refine bodyPost_ret (v := .tuple #[.slice none 0 0, .int .i64 42]) (by simp [results, Try.results14, go_sem]) rfl ?_
    refine ⟨none, 0, 0, ?_, ?_, HLOW.out _ HB2.out⟩
    · rw [← HPC.out, HC.out]
    · rw [← HPO.out]; unfold ipo; rw [if_neg (by rw [HC.out]; decide)]; exact BAt.none _
  have h2z : ¬ (1488 : Int) < (k : Int) := by omega
  obtain ⟨y0, hy0⟩ : ∃ y, 128 + h0 % 64 = y := ⟨_, rfl⟩
  have by0 : 0 ≤ y0 ∧ y0 < 256 := by omega
  have HY0 := Lib.hid hy0
  have t0 : h0.tmod 64 = h0 % 64 := Int.tmod_eq_emod_of_nonneg (by omega)
  have t1 : IntKind.u8.wrap y0 = y0 := by simp [IntKind.wrap, IntKind.bits, IntKind.signed]; omega
  have hwx' : IntKind.u64.wrap sq = sq := by simp [IntKind.wrap, IntKind.bits, IntKind.signed]; omega
  have hwz' : IntKind.u64.wrap ss = ss := by simp [IntKind.wrap, IntKind.bits, IntKind.signed]; omega
  have hk0 : (0 : Int) ≤ (k : Int) := by omega
  have hkc : (k : Int) ≤ (c : Int) := by omega
  have hs26 : ∀ W, (Instr.slice 22 (.slice (some ⟨hb, ho, none⟩) 8 ch) (some (.int .i64 2)) (some (.int .i64 6)) none).run Try.prog W = .ok (.slice (restA (some ⟨hb, ho, none⟩) ch 2) 4 (ch - 2)) W := fun W => run_midP (some ⟨hb, ho, none⟩) 8 ch 2 4 2 6 rfl rfl (by omega) hch W
  obtain ⟨Q, hQ⟩ : ∃ Q : World → Prop, (fun W => Below wx.heap.size wx W) = Q := ⟨_, rfl⟩
  have HQ : Hid (∀ W, Q W ↔ Below wx.heap.size wx W) := Lib.hid fun W => by rw [← hQ]
  have HQL : Hid (∀ W, Q W → Below w.heap.size w W) := Lib.hid fun W hW => HLOW.out W ((HQ.out W).1 hW)
  have QB : Hid (∀ W W', Q W → Below W.heap.size W W' → Q W') := Lib.hid fun W W' hW hb => by
    rw [HQ.out] at hW ⊢
    exact hW.trans (hb.mono hW.size)
  have hQ2 : Q w2 := by rw [HQ.out]; exact HB2.out
  have MK : Hid (∀ W, Q W → (W.cell? ⟨w.heap.size, 0, none⟩ = some (.slice (some ⟨hb, ho, none⟩) 8 ch) ∧ W.cell? ⟨w.heap.size, 1, none⟩ = some (.slice a n c) ∧ W.cell? ⟨hb, ho, none⟩ = some (.int .u8 h0) ∧ W.cell? ⟨hb, ho + 1, none⟩ = some (.int .u8 h1)) ∧ Q W) := Lib.hid fun W hW => by
    obtain ⟨z0, z1, z2, z3, _, _⟩ := HST.out W ((HQ.out W).1 hW)
    exact ⟨⟨z0, z1, z2, z3⟩, hW⟩
  have BAL : Hid (∀ W : World, Below W.heap.size W (W.alloc (.cells #[.int .u8 y0, .int .u8 h1] 5))) := Lib.hid fun W => (Below.refl _ W).alloc (Nat.le_refl _) _
  have LIT : Hid (∀ W : World, BAt (W.alloc (.cells #[.int .u8 y0, .int .u8 h1] 5)) (some ⟨W.heap.size, 0, none⟩) 2 [y0, h1]) := Lib.hid fun W => lit_bat (l := [y0, h1]) (heap_alloc_new W _) (fun q => by
    match q with
    | 0 => exact by0
    | 1 => exact b1
    | q + 2 => simp) (by simp)
  have SAL : Hid (∀ W : World, (W.cell? ⟨w.heap.size, 0, none⟩ = some (.slice (some ⟨hb, ho, none⟩) 8 ch) ∧ W.cell? ⟨w.heap.size, 1, none⟩ = some (.slice a n c) ∧ W.cell? ⟨hb, ho, none⟩ = some (.int .u8 h0) ∧ W.cell? ⟨hb, ho + 1, none⟩ = some (.int .u8 h1)) ∧ Q W → ((W.alloc (.cells #[.int .u8 y0, .int .u8 h1] 5)).cell? ⟨w.heap.size, 0, none⟩ = some (.slice (some ⟨hb, ho, none⟩) 8 ch) ∧ (W.alloc (.cells #[.int .u8 y0, .int .u8 h1] 5)).cell? ⟨w.heap.size, 1, none⟩ = some (.slice a n c) ∧ (W.alloc (.cells #[.int .u8 y0, .int .u8 h1] 5)).cell? ⟨hb, ho, none⟩ = some (.int .u8 h0) ∧ (W.alloc (.cells #[.int .u8 y0, .int .u8 h1] 5)).cell? ⟨hb, ho + 1, none⟩ = some (.int .u8 h1)) ∧ Q (W.alloc (.cells #[.int .u8 y0, .int .u8 h1] 5))) := Lib.hid fun W hh => MK.out _ (QB.out _ _ hh.2 (BAL.out W))
  have DR : Hid (∀ W : World, (W.cell? ⟨w.heap.size, 0, none⟩ = some (.slice (some ⟨hb, ho, none⟩) 8 ch) ∧ W.cell? ⟨w.heap.size, 1, none⟩ = some (.slice a n c) ∧ W.cell? ⟨hb, ho, none⟩ = some (.int .u8 h0) ∧ W.cell? ⟨hb, ho + 1, none⟩ = some (.int .u8 h1)) ∧ Q W → (W.drew.cell? ⟨w.heap.size, 0, none⟩ = some (.slice (some ⟨hb, ho, none⟩) 8 ch) ∧ W.drew.cell? ⟨w.heap.size, 1, none⟩ = some (.slice a n c) ∧ W.drew.cell? ⟨hb, ho, none⟩ = some (.int .u8 h0) ∧ W.drew.cell? ⟨hb, ho + 1, none⟩ = some (.int .u8 h1)) ∧ Q W.drew) := Lib.hid fun W hh => MK.out _ (QB.out _ _ hh.2 (Below.refl _ W).drew)
  have hcur := MK.out _ hQ2
  have hS3 := MK.out _ (QB.out _ _ hQ2 (((Below.refl _ w2).alloc (Nat.le_refl _) (.cells #[.int .u8 y0, .int .u8 h1] 5)).drew))
  have hS3' := MK.out _ (QB.out _ _ hQ2 (Below.refl _ w2).drew)
  have HT3 := Lib.hid ((LIT.out w2).below (Below.refl _ _).drew)
  have HHQ : Hid (∀ W, Q W → BAt W (restA (some ⟨hb, ho, none⟩) ch 2) 4 [h2, h3, h4, h5]) := Lib.hid fun W hW => (restA_bat (HHH.out.below (HQL.out W hW)) hch 2 (by omega)).take 4 (by omega)
  have HAQ : Hid (∀ W, Q W → BAt W a k (la.take k)) := Lib.hid fun W hW => (HA.out.below (HQL.out W hW)).take k (by omega)
  clear hQ hQ2 e0 e1 e6 e7 x0 x1 hbl
  go_wp2_with fail
  go_cut [9] from 33 to 58 (fun x wz => ∃ (a' : Option Addr) (c' : Nat), x = .slice a' (2 + (2 + (4 + (4 + k)))) c' ∧ Hid (2 + (2 + (4 + (4 + k))) ≤ c' ∧ BAt wz a' (2 + (2 + (4 + (4 + k)))) (ipb h0 h1 h2 h3 h4 h5 h6 h7 la k sq ss)) ∧ Hid (Q wz))
  case first =>
    go_region_held3 (fun W : World => (W.cell? ⟨w.heap.size, 0, none⟩ = some (.slice (some ⟨hb, ho, none⟩) 8 ch) ∧ W.cell? ⟨w.heap.size, 1, none⟩ = some (.slice a n c) ∧ W.cell? ⟨hb, ho, none⟩ = some (.int .u8 h0) ∧ W.cell? ⟨hb, ho + 1, none⟩ = some (.int .u8 h1)) ∧ Q W) (first | with_reducible assumption | with_reducible exact DR.out _ (by with_reducible assumption) | with_reducible exact hS3 | with_reducible exact SAL.out _ (by with_reducible assumption) | with_reducible exact DR.out _ (SAL.out _ (by with_reducible assumption)) | with_reducible exact hS12 _ | with_reducible exact hS12' _ | with_reducible exact hS9)
      (first
        | (go_at_call_of 36 (Value.int IntKind.u64 sq); refine (rbig_any sq 2 _ hq.1 (by omega) (by decide)).mono ?_; rintro e w9 ⟨a9, c9, rfl, hO9, hB9⟩; (first | with_reducible have hS9 := MK.out _ (QB.out _ _ hS3.2 hB9) | with_reducible have hS9 := MK.out _ (QB.out _ _ hS3'.2 hB9)); (first | with_reducible have HT9 := Lib.hid (HT3.out.below hB9) | with_reducible have HT9 := Lib.hid trivial); have HG9 := Lib.hid hO9.bat; clear hO9 hB9)
        | (go_at_call_of 36 (Value.int IntKind.u64 ss); refine (rbig_any ss 4 _ hs.1 (by omega) (by decide)).mono ?_; rintro e w11 ⟨a11, c11, rfl, hO11, hB11⟩; (first | with_reducible have hS11 := MK.out _ (QB.out _ _ hS9.2 hB11) | with_reducible have hS11 := MK.out _ (QB.out _ _ (QB.out _ _ hS9.2 (BAL.out w9)) hB11)); (first | with_reducible have HT11 := Lib.hid (HT9.out.below hB11) | with_reducible have HT11 := Lib.hid ((LIT.out w9).below hB11) | with_reducible have HT11 := Lib.hid trivial); (first | with_reducible have HG9' := Lib.hid (HG9.out.below hB11) | with_reducible have HG9' := Lib.hid ((HG9.out.below (BAL.out w9)).below hB11)); have HG11 := Lib.hid hO11.bat; have hS12 := (fun o => MK.out _ (QB.out _ _ hS11.2 ((Below.refl _ w11).alloc (Nat.le_refl _) o))); have hS12' := (fun o => MK.out _ (QB.out _ _ (QB.out _ _ hS11.2 (BAL.out w11)) ((Below.refl _ _).alloc (Nat.le_refl _) o))); clear hO11 hB11)
        | (go_at_call 35; (first | with_reducible refine (join5g w11 w11.heap.size rfl _ _ _ _ _ _ _ _ _ _ _ _ _ _ _ _ _ _ _ _ HT11.out HG9'.out (HHQ.out _ hS11.2) HG11.out (HAQ.out _ hS11.2) (by omega) (by omega) (by omega) (by omega) (by omega)).mono ?_ | with_reducible refine (join5g _ (w11.heap.size + 1) (by simp) _ _ _ _ _ _ _ _ _ _ _ _ _ _ _ _ _ _ _ _ (LIT.out w11) (HG9'.out.below (BAL.out w11)) (HHQ.out _ (QB.out _ _ hS11.2 (BAL.out w11))) (HG11.out.below (BAL.out w11)) (HAQ.out _ (QB.out _ _ hS11.2 (BAL.out w11))) (by omega) (by omega) (by omega) (by omega) (by omega)).mono ?_); rintro e w13 ⟨a13, c13, rfl, hO13, hB13⟩; (first | with_reducible have hS9 := MK.out _ (QB.out _ _ (hS12 _).2 hB13) | with_reducible have hS9 := MK.out _ (QB.out _ _ (hS12' _).2 hB13)); have HT13 := Lib.hid (And.intro hO13.cap7 hO13.bat); clear hO13 hB13))
    all_goals go_wp2_with fail
    all_goals go_meet
    all_goals exact ⟨a13, c13, rfl, Lib.hid (by unfold ipb; rw [HY0.out]; exact HT13.out), Lib.hid hS9.2⟩
  case rest =>
    obtain ⟨a7, c7, hx7, HT, HQ7⟩ := hcut
    rw [show 2 + (2 + (4 + (4 + k))) = 12 + k by omega] at hx7 HT
    subst hx7
    have HPB := Lib.hid (rparse5_any a7 (12 + k) c7 _ wc HT.out.2 HT.out.1)
    have HCC : Hid (PC = if pcodeF (12 + k) (ipb h0 h1 h2 h3 h4 h5 h6 h7 la k sq ss) = 0 then 0 else 42) := Lib.hid (by rw [← HPC.out]; unfold ipc; rw [HK.out, if_neg (by rw [HLEN.out]; omega)])
    have HOO : Hid (PO = if PC = 0 then ipb h0 h1 h2 h3 h4 h5 h6 h7 la k sq ss else []) := Lib.hid (by rw [← HPO.out, ← HPC.out]; unfold ipo; rw [HK.out])
    clear HPC HPO
    generalize ipb h0 h1 h2 h3 h4 h5 h6 h7 la k sq ss = LB at *
    go_wp2_with fail
    refine (HPB.out).mono ?_
    rintro e w8 ⟨g3, g4⟩
    clear HPB
    by_cases hp : pcodeF (12 + k) LB = 0
    · obtain ⟨m, h, pt, ts, pr, a5, a8, a9, a10, n5, c5, n8, c8, n9, c9, n10, c10, rfl, hB8⟩ := g4 hp
      have hB8' := hB8.alloc hB8.size (.cells #[.bool m, .int .i64 pt, .int .u16 (Num ((LB.drop 2).take 2)), .int .u32 ts, .int .u32 (Num ((LB.drop 8).take 4)), .slice a5 n5 c5, .bool h, .int .u16 pr, .slice a8 n8 c8, .slice a9 n9 c9, .slice a10 n10 c10] 66)
      generalize Num ((LB.drop 2).take 2) = s1 at *
      generalize Num ((LB.drop 8).take 4) = s2 at *
      have HC0 : Hid (PC = 0) := Lib.hid (by rw [HCC.out, if_pos hp])
      have HBB := Lib.hid (HT.out.2.below hB8')
      have HLL := Lib.hid ((HQL.out _ HQ7.out).trans (hB8'.mono (HQL.out _ HQ7.out).size))
      clear g3 g4 hB8 hB8' hp HCC
      go_wp2_with fail
      refine bodyPost_ret (v := .tuple #[.slice a7 (12 + k) c7, .int .i64 0]) (by simp [results, Try.results14, go_sem]) rfl ?_
      exact ⟨a7, 12 + k, c7, by rw [HC0.out], by rw [HOO.out, if_pos HC0.out]; exact HBB.out, HLL.out⟩
    · obtain ⟨m, h, pt, ts, pr, a5, a8, a9, a10, n5, c5, n8, c8, n9, c9, n10, c10, rfl, hB8⟩ := g3 hp
      have hpb : (pcodeF (12 + k) LB != 0) = true := by simpa using hp
      have hB8' := hB8.alloc hB8.size (.cells #[.bool m, .int .i64 pt, .int .u16 0, .int .u32 ts, .int .u32 0, .slice a5 n5 c5, .bool h, .int .u16 pr, .slice a8 n8 c8, .slice a9 n9 c9, .slice a10 n10 c10] 66)
      have HC0 : Hid (PC = 42) := Lib.hid (by rw [HCC.out, if_neg hp])
      have HLL := Lib.hid ((HQL.out _ HQ7.out).trans (hB8'.mono (HQL.out _ HQ7.out).size))
      clear g3 g4 hB8 hB8' hp HCC
      generalize pcodeF (12 + k) LB = f at *
      go_wp2_with fail
      refine bodyPost_ret (v := .tuple #[.slice none 0 0, .int .i64 42]) (by simp [results, Try.results14, go_sem]) rfl ?_
      exact ⟨none, 0, 0, by rw [HC0.out], by rw [HOO.out, if_neg (by rw [HC0.out]; decide)]; exact BAt.none _, HLL.out⟩
end Go.Proofs.Ytppgjodehphaeaa

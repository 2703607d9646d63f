
/-
  confluxref05.Write, where the packet is valid.
-/
import Derived.Test.YtkoldfoliigifaaRtpBack
import Derived.Test.YtkoldfoliigifaaRtpPlain4
import Derived.Deep.DeepCutAuto
namespace Go.Proofs.Ytkoldfoliigifaa
open Go.RowKit Go.Shelf
set_option linter.unusedVariables false
theorem rat_four (w : World) (a b e g : Option Addr) (n m k j c d f i : Nat) (la lb le lg : List Int) (ha : BAt w a n la) (hb : BAt w b m lb) (he : BAt w e k le) (hg : BAt w g j lg) (hn : n ≤ 140737488355328) (hm : m ≤ 140737488355328) (hk : k ≤ 140737488355328) (hj : j ≤ 140737488355328) :
    RAt (w.alloc (.cells #[.slice a n c, .slice b m d, .slice e k f, .slice g j i] 25)) (some ⟨w.heap.size, 0, none⟩) 4 [la, lb, le, lg] := by
  have hbel : Below w.heap.size w (w.alloc (.cells #[.slice a n c, .slice b m d, .slice e k f, .slice g j i] 25)) := (Below.refl _ w).alloc (Nat.le_refl _) _
  refine ⟨rfl, w.heap.size, 0, fun x => if x = 0 then a else if x = 1 then b else if x = 2 then e else g, fun x => if x = 0 then n else if x = 1 then m else if x = 2 then k else j, fun x => if x = 0 then c else if x = 1 then d else if x = 2 then f else i, fun x hx => ?_⟩
  match x, hx with
  | 0, _ => exact ⟨rfl, by simp, by simp [go_sem], ha.below hbel, hn⟩
  | 1, _ => exact ⟨rfl, by simp, by simp [go_sem], hb.below hbel, hm⟩
  | 2, _ => exact ⟨rfl, by simp, by simp [go_sem], he.below hbel, hk⟩
  | 3, _ => exact ⟨rfl, by simp, by simp [go_sem], hg.below hbel, hj⟩
theorem join4 (w : World) (a b e g : Option Addr) (n m k j c d f i : Nat) (la lb le lg : List Int) (ha : BAt w a n la) (hb : BAt w b m lb) (he : BAt w e k le) (hg : BAt w g j lg) (hn : n ≤ 1000000) (hm : m ≤ 1000000) (hk : k ≤ 1000000) (hj : j ≤ 1000000) :
    Calls Try.prog 22 #[.slice (some ⟨w.heap.size, 0, none⟩) 4 4] (w.alloc (.cells #[.slice a n c, .slice b m d, .slice e k f, .slice g j i] 25)) (NewB (n + (m + (k + j))) (la ++ (lb ++ (le ++ lg))) (w.alloc (.cells #[.slice a n c, .slice b m d, .slice e k f, .slice g j i] 25))) := by
  have l1 := ha.len; have l2 := hb.len; have l3 := he.len; have l4 := hg.len
  have := join_any (some ⟨w.heap.size, 0, none⟩) 4 4 [la, lb, le, lg] _ (rat_four w a b e g n m k j c d f i la lb le lg ha hb he hg (by omega) (by omega) (by omega) (by omega)) (by decide) (fun l hl => by simp at hl; rcases hl with rfl | rfl | rfl | rfl <;> omega) (n + (m + (k + j))) (by simp; omega)
  simpa using this
theorem join4g (w : World) (z : Nat) (hz : z = w.heap.size) (a b e g : Option Addr) (n m k j c d f i : Nat) (la lb le lg : List Int) (ha : BAt w a n la) (hb : BAt w b m lb) (he : BAt w e k le) (hg : BAt w g j lg) (hn : n ≤ 1000000) (hm : m ≤ 1000000) (hk : k ≤ 1000000) (hj : j ≤ 1000000) :
    Calls Try.prog 22 #[.slice (some ⟨z, 0, none⟩) 4 4] (w.alloc (.cells #[.slice a n c, .slice b m d, .slice e k f, .slice g j i] 25)) (NewB (n + (m + (k + j))) (la ++ (lb ++ (le ++ lg))) (w.alloc (.cells #[.slice a n c, .slice b m d, .slice e k f, .slice g j i] 25))) := by
  subst hz; exact join4 w a b e g n m k j c d f i la lb le lg ha hb he hg hn hm hk hj
theorem join3 (w : World) (a b e : Option Addr) (n m k c d f : Nat) (la lb le : List Int) (ha : BAt w a n la) (hb : BAt w b m lb) (he : BAt w e k le) (hn : n ≤ 1000000) (hm : m ≤ 1000000) (hk : k ≤ 1000000) :
    Calls Try.prog 22 #[.slice (some ⟨w.heap.size, 0, none⟩) 3 3] (w.alloc (.cells #[.slice a n c, .slice b m d, .slice e k f] 25)) (NewB (n + (m + k)) (la ++ (lb ++ le)) (w.alloc (.cells #[.slice a n c, .slice b m d, .slice e k f] 25))) := by
  have l1 := ha.len; have l2 := hb.len; have l3 := he.len
  have := join_any (some ⟨w.heap.size, 0, none⟩) 3 3 [la, lb, le] _ (rat_three w a b e n m k c d f la lb le ha hb he (by omega) (by omega) (by omega)) (by decide) (fun l hl => by simp at hl; rcases hl with rfl | rfl | rfl <;> omega) (n + (m + k)) (by simp; omega)
  simpa using this
theorem join2 (w : World) (a b : Option Addr) (n m c d : Nat) (la lb : List Int) (ha : BAt w a n la) (hb : BAt w b m lb) (hn : n ≤ 1000000) (hm : m ≤ 1000000) :
    Calls Try.prog 22 #[.slice (some ⟨w.heap.size, 0, none⟩) 2 2] (w.alloc (.cells #[.slice a n c, .slice b m d] 25)) (NewB (n + m) (la ++ lb) (w.alloc (.cells #[.slice a n c, .slice b m d] 25))) := by
  have l1 := ha.len; have l2 := hb.len
  have := join_any (some ⟨w.heap.size, 0, none⟩) 2 2 [la, lb] _ (rat_two w a b n m c d la lb ha hb (by omega) (by omega)) (by decide) (fun l hl => by simp at hl; rcases hl with rfl | rfl <;> omega) (n + m) (by simp; omega)
  simpa using this
theorem enc_parts (p : Pk) (s : Pl) (X1 X2 Y1 : Int) (h1 : 128 + (s.nc : Int) + (if 0 < s.nd then 32 else 0) = X1) (h2 : X1 + (if p.hasExt = true then 16 else 0) = X2) (h3 : p.pt + (if p.marker = true then 128 else 0) = Y1) (b2 : 128 ≤ X2 ∧ X2 ≤ 191) (b3 : 0 ≤ Y1 ∧ Y1 ≤ 255) :
    enc p s = (([X2, Y1] ++ (Big 2 p.seq ++ (Big 4 p.ts ++ Big 4 p.ssrc))) ++ longs p.csrc) ++ ((if p.hasExt then Big 2 p.profile ++ (Big 2 ((s.ne / 4 : Nat) : Int) ++ p.ext) else []) ++ (p.payload ++ p.pad)) := by
  have e0 : hd0 p s = X2 := by
    unfold hd0
    rw [← h2, ← h1]
    by_cases e : 0 < s.nd
    · rw [decide_eq_true e, if_pos rfl, if_pos e]; omega
    · rw [decide_eq_false e, if_neg (by simp), if_neg e]; omega
  have e1 : hd1 p = Y1 := by unfold hd1; rw [← h3]; omega
  unfold enc
  rw [e0, e1, Big1, Big1, show X2 % 256 = X2 from by omega, show Y1 % 256 = Y1 from by omega]
  simp
set_option maxHeartbeats 8000000 in
set_option maxRecDepth 100000 in
theorem rwrite5_ok (p : Pk) (s : Pl) (w : World) (hp : PkAt w p s) (hs : Sm s) (hv : Vld p s) :
    Calls Try.prog 7 #[.agg (pkc p s)] w (WrOut 0 (enc p s) w) := by
  have HL0 := Lib.hid (Lw.start w p s)
  have HSIZE : Hid (∀ W, Calls Try.prog 10 #[.agg (pkc p s)] W (ValB (.int .i64 (sz p s : Nat)) W)) := Lib.hid fun W => rsize_any p s W hs
  have HV := Lib.hid hv
  have v1 := hv.pt; have v2 := hv.n15; have v3 := hv.size; have V4 := Lib.hid hv.ext; have V5 := Lib.hid hv.noext; have v6 := hv.pad; have v7 := hv.prof; have v8 := hv.seq; have v9 := hv.ts; have v10 := hv.ssrc
  have HZ := Lib.hid (show s.np ≤ 1500 ∧ s.nd ≤ 1500 by unfold sz at v3; constructor <;> omega)
  have HP := Lib.hid hp
  have hpok := hv.okp
  clear hp hv
  obtain ⟨Post, hPost⟩ : ∃ Post, WrOut 0 (enc p s) w = Post := ⟨_, rfl⟩
  rw [hPost]
  have HPOST := Lib.hid hPost; clear hPost
  generalize hzz : sz p s = zz at HSIZE v3
  have HZZ := Lib.hid hzz; clear hzz
  obtain ⟨m, pt, sq, ts, ss, cs, h, pr, ex, py, pd⟩ := p
  obtain ⟨ac, nc, cc, ae, ne, ce, ap, np, cp, ad, nd, cd⟩ := s
  obtain ⟨s1, s2, s3, s4⟩ := hs
  simp only at v1 v2 v6 v7 v8 v9 v10 s1 s2 s3 s4 hpok
  simp only [pkc] at HSIZE ⊢
  have h1 : ¬ pt < 0 := by omega
  have h2 : ¬ 127 < pt := by omega
  have h5 : ¬ (15 : Int) < (nc : Int) := by omega
  have h6 : ¬ (1500 : Int) < (zz : Int) := by omega
  have hA1 : IntKind.i64.wrap (128 + (nc : Int)) = 128 + (nc : Int) := by rw [IntKind.wrap_i64]; omega
  go_enter Try.func7, Try.ntmps7
  go_upto_region 1 with (fail)
  go_cut [50] from 8 to 50 (fun t wx => t = .bool false ∧ Hid (Lw w wx ⟨m, pt, sq, ts, ss, cs, h, pr, ex, py, pd⟩ ⟨ac, nc, cc, ae, ne, ce, ap, np, cp, ad, nd, cd⟩))
  case first =>
    have h8 : ¬ (255 : Int) < (nd : Int) := by
      rcases v6 with e | e
      · omega
      · have := hpok (nd - 1); omega
    cases h
    · obtain ⟨e1, e2⟩ := V5.out rfl
      simp only at e1 e2
      subst e1 e2
      go_wp2_with fail
      go_meet
      exact ⟨rfl, HL0⟩
    · obtain ⟨e1, e2⟩ := V4.out rfl
      simp only at e1 e2
      have er : ((ne : Int)).tmod 4 = 0 := by rw [Int.tmod_eq_emod_of_nonneg (by omega)]; omega
      have h7 : ¬ (262140 : Int) < (ne : Int) := by omega
      go_wp2_with fail
      go_meet
      exact ⟨rfl, HL0⟩
  case rest =>
    obtain ⟨rfl, HL⟩ := hcut
    obtain ⟨w1, e1⟩ : ∃ W, W = wc := ⟨_, rfl⟩
    subst e1
    clear HL0
    have bx := HL.out.box
    simp only [pkc] at bx
    have d0 : w1.cell? ⟨w.heap.size, 0, none⟩ = some (.bool m) := by rw [cell_of_row w1 _ 0 _ _ _ bx]; rfl
    have d1 : w1.cell? ⟨w.heap.size, 1, none⟩ = some (.int .i64 pt) := by rw [cell_of_row w1 _ 1 _ _ _ bx]; rfl
    have d2 : w1.cell? ⟨w.heap.size, 2, none⟩ = some (.int .u16 sq) := by rw [cell_of_row w1 _ 2 _ _ _ bx]; rfl
    have d3 : w1.cell? ⟨w.heap.size, 3, none⟩ = some (.int .u32 ts) := by rw [cell_of_row w1 _ 3 _ _ _ bx]; rfl
    have d4 : w1.cell? ⟨w.heap.size, 4, none⟩ = some (.int .u32 ss) := by rw [cell_of_row w1 _ 4 _ _ _ bx]; rfl
    have d5 : w1.cell? ⟨w.heap.size, 5, none⟩ = some (.slice ac nc cc) := by rw [cell_of_row w1 _ 5 _ _ _ bx]; rfl
    have d6 : w1.cell? ⟨w.heap.size, 6, none⟩ = some (.bool h) := by rw [cell_of_row w1 _ 6 _ _ _ bx]; rfl
    have d7 : w1.cell? ⟨w.heap.size, 7, none⟩ = some (.int .u16 pr) := by rw [cell_of_row w1 _ 7 _ _ _ bx]; rfl
    have d8 : w1.cell? ⟨w.heap.size, 8, none⟩ = some (.slice ae ne ce) := by rw [cell_of_row w1 _ 8 _ _ _ bx]; rfl
    have d9 : w1.cell? ⟨w.heap.size, 9, none⟩ = some (.slice ap np cp) := by rw [cell_of_row w1 _ 9 _ _ _ bx]; rfl
    have d10 : w1.cell? ⟨w.heap.size, 10, none⟩ = some (.slice ad nd cd) := by rw [cell_of_row w1 _ 10 _ _ _ bx]; rfl
    clear bx
    go_upto_region 3 with (fail)
    go_cut [69] from 51 to 69 (fun t wx => t = .bool false ∧ Hid (Lw w wx ⟨m, pt, sq, ts, ss, cs, h, pr, ex, py, pd⟩ ⟨ac, nc, cc, ae, ne, ce, ap, np, cp, ad, nd, cd⟩))
    case first =>
      by_cases hn0 : nd = 0
      · subst hn0
        go_quiet (fail)
        go_wp2_with fail
        go_meet
        exact ⟨rfl, Lib.hid (HL.out.below (below_drewN _ _ nq))⟩
      · have hlast : pd.getD (nd - 1) 0 = nd := by
          rcases v6 with e | e
          · exact absurd e hn0
          · exact e
        have h9 : (0 : Int) < (nd : Int) := by omega
        have hi : IntKind.i64.wrap ((nd : Int) - 1) = ((nd - 1 : Nat) : Int) := by rw [IntKind.wrap_i64]; omega
        have hi' : (nd : Int) - 1 = ((nd - 1 : Nat) : Int) := by omega
        have hi0 : (0 : Int) ≤ ((nd - 1 : Nat) : Int) := by omega
        have hi2 : ((nd - 1 : Nat) : Int) < (nd : Int) := by omega
        have hw : IntKind.i64.wrap (nd : Int) = (nd : Int) := by rw [IntKind.wrap_i64]; omega
        obtain ⟨pb, po, hr⟩ := (HP.out.pad.below HL.out.low).row
        obtain ⟨rfl, hbl, g0, _⟩ := hr (nd - 1) (by simp only; omega)
        simp only at g0
        rw [hlast] at g0
        have hnd0 : 0 < nd := by omega
        have hnl : nd ≤ 100000 := by omega
        clear hr hlast hn0 v6
        generalize nd - 1 = kd at *
        go_quiet (fail)
        go_wp2_with fail
        go_meet
        exact ⟨rfl, Lib.hid (HL.out.below (below_drewN _ _ nq))⟩
    case rest =>
    clear HL d0 d1 d2 d3 d4 d5 d6 d7 d8 d9 d10
    obtain ⟨rfl, HL⟩ := hcut
    obtain ⟨w2, e1⟩ : ∃ W, W = wc := ⟨_, rfl⟩
    subst e1
    have bx := HL.out.box
    simp only [pkc] at bx
    have d0 : w2.cell? ⟨w.heap.size, 0, none⟩ = some (.bool m) := by rw [cell_of_row w2 _ 0 _ _ _ bx]; rfl
    have d1 : w2.cell? ⟨w.heap.size, 1, none⟩ = some (.int .i64 pt) := by rw [cell_of_row w2 _ 1 _ _ _ bx]; rfl
    have d2 : w2.cell? ⟨w.heap.size, 2, none⟩ = some (.int .u16 sq) := by rw [cell_of_row w2 _ 2 _ _ _ bx]; rfl
    have d3 : w2.cell? ⟨w.heap.size, 3, none⟩ = some (.int .u32 ts) := by rw [cell_of_row w2 _ 3 _ _ _ bx]; rfl
    have d4 : w2.cell? ⟨w.heap.size, 4, none⟩ = some (.int .u32 ss) := by rw [cell_of_row w2 _ 4 _ _ _ bx]; rfl
    have d5 : w2.cell? ⟨w.heap.size, 5, none⟩ = some (.slice ac nc cc) := by rw [cell_of_row w2 _ 5 _ _ _ bx]; rfl
    have d6 : w2.cell? ⟨w.heap.size, 6, none⟩ = some (.bool h) := by rw [cell_of_row w2 _ 6 _ _ _ bx]; rfl
    have d7 : w2.cell? ⟨w.heap.size, 7, none⟩ = some (.int .u16 pr) := by rw [cell_of_row w2 _ 7 _ _ _ bx]; rfl
    have d8 : w2.cell? ⟨w.heap.size, 8, none⟩ = some (.slice ae ne ce) := by rw [cell_of_row w2 _ 8 _ _ _ bx]; rfl
    have d9 : w2.cell? ⟨w.heap.size, 9, none⟩ = some (.slice ap np cp) := by rw [cell_of_row w2 _ 9 _ _ _ bx]; rfl
    have d10 : w2.cell? ⟨w.heap.size, 10, none⟩ = some (.slice ad nd cd) := by rw [cell_of_row w2 _ 10 _ _ _ bx]; rfl
    clear bx
    go_wp2_with fail
    refine (HSIZE.out _).mono ?_
    rintro e w3 ⟨rfl, hB3⟩
    have HL := Lib.hid (HL.out.below hB3)
    clear d0 d1 d2 d3 d4 d5 d6 d7 d8 d9 d10 hB3
    have bx := HL.out.box
    simp only [pkc] at bx
    have d0 : w3.cell? ⟨w.heap.size, 0, none⟩ = some (.bool m) := by rw [cell_of_row w3 _ 0 _ _ _ bx]; rfl
    have d1 : w3.cell? ⟨w.heap.size, 1, none⟩ = some (.int .i64 pt) := by rw [cell_of_row w3 _ 1 _ _ _ bx]; rfl
    have d2 : w3.cell? ⟨w.heap.size, 2, none⟩ = some (.int .u16 sq) := by rw [cell_of_row w3 _ 2 _ _ _ bx]; rfl
    have d3 : w3.cell? ⟨w.heap.size, 3, none⟩ = some (.int .u32 ts) := by rw [cell_of_row w3 _ 3 _ _ _ bx]; rfl
    have d4 : w3.cell? ⟨w.heap.size, 4, none⟩ = some (.int .u32 ss) := by rw [cell_of_row w3 _ 4 _ _ _ bx]; rfl
    have d5 : w3.cell? ⟨w.heap.size, 5, none⟩ = some (.slice ac nc cc) := by rw [cell_of_row w3 _ 5 _ _ _ bx]; rfl
    have d6 : w3.cell? ⟨w.heap.size, 6, none⟩ = some (.bool h) := by rw [cell_of_row w3 _ 6 _ _ _ bx]; rfl
    have d7 : w3.cell? ⟨w.heap.size, 7, none⟩ = some (.int .u16 pr) := by rw [cell_of_row w3 _ 7 _ _ _ bx]; rfl
    have d8 : w3.cell? ⟨w.heap.size, 8, none⟩ = some (.slice ae ne ce) := by rw [cell_of_row w3 _ 8 _ _ _ bx]; rfl
    have d9 : w3.cell? ⟨w.heap.size, 9, none⟩ = some (.slice ap np cp) := by rw [cell_of_row w3 _ 9 _ _ _ bx]; rfl
    have d10 : w3.cell? ⟨w.heap.size, 10, none⟩ = some (.slice ad nd cd) := by rw [cell_of_row w3 _ 10 _ _ _ bx]; rfl
    clear bx
    go_wp2_with fail
    go_quiet (fail)
    have HL := Lib.hid (HL.out.below (below_drewN _ _ nq))
    generalize hw4 : World.drewN w3 nq = w4 at HL ⊢
    clear d0 d1 d2 d3 d4 d5 d6 d7 d8 d9 d10 hw4
    have bx := HL.out.box
    simp only [pkc] at bx
    have d0 : w4.cell? ⟨w.heap.size, 0, none⟩ = some (.bool m) := by rw [cell_of_row w4 _ 0 _ _ _ bx]; rfl
    have d1 : w4.cell? ⟨w.heap.size, 1, none⟩ = some (.int .i64 pt) := by rw [cell_of_row w4 _ 1 _ _ _ bx]; rfl
    have d2 : w4.cell? ⟨w.heap.size, 2, none⟩ = some (.int .u16 sq) := by rw [cell_of_row w4 _ 2 _ _ _ bx]; rfl
    have d3 : w4.cell? ⟨w.heap.size, 3, none⟩ = some (.int .u32 ts) := by rw [cell_of_row w4 _ 3 _ _ _ bx]; rfl
    have d4 : w4.cell? ⟨w.heap.size, 4, none⟩ = some (.int .u32 ss) := by rw [cell_of_row w4 _ 4 _ _ _ bx]; rfl
    have d5 : w4.cell? ⟨w.heap.size, 5, none⟩ = some (.slice ac nc cc) := by rw [cell_of_row w4 _ 5 _ _ _ bx]; rfl
    have d6 : w4.cell? ⟨w.heap.size, 6, none⟩ = some (.bool h) := by rw [cell_of_row w4 _ 6 _ _ _ bx]; rfl
    have d7 : w4.cell? ⟨w.heap.size, 7, none⟩ = some (.int .u16 pr) := by rw [cell_of_row w4 _ 7 _ _ _ bx]; rfl
    have d8 : w4.cell? ⟨w.heap.size, 8, none⟩ = some (.slice ae ne ce) := by rw [cell_of_row w4 _ 8 _ _ _ bx]; rfl
    have d9 : w4.cell? ⟨w.heap.size, 9, none⟩ = some (.slice ap np cp) := by rw [cell_of_row w4 _ 9 _ _ _ bx]; rfl
    have d10 : w4.cell? ⟨w.heap.size, 10, none⟩ = some (.slice ad nd cd) := by rw [cell_of_row w4 _ 10 _ _ _ bx]; rfl
    clear bx
    go_upto_if 86 with (fail)
    obtain ⟨X1, hX1⟩ : ∃ X : Int, 128 + (nc : Int) + (if 0 < nd then 32 else 0) = X := ⟨_, rfl⟩
    have hX1b : 128 ≤ X1 ∧ X1 ≤ 175 := by rw [← hX1]; split <;> omega
    have HX1 := Lib.hid hX1; clear hX1
    go_cut [4] from 86 to 88 (fun x wx => x = .int .i64 X1 ∧ wx = w4)
    case first =>
      by_cases hn0 : 0 < nd
      · have hb : decide (0 < nd) = true := decide_eq_true hn0
        have h9 : (0 : Int) < (nd : Int) := by omega
        go_wp2_with fail
        go_meet
        exact ⟨congrArg (Value.int .i64) (by rw [← HX1.out, if_pos hn0]), rfl⟩
      · have hb : decide (0 < nd) = false := decide_eq_false hn0
        have h9 : ¬ (0 : Int) < (nd : Int) := by omega
        go_wp2_with fail
        go_meet
        exact ⟨congrArg (Value.int .i64) (by rw [← HX1.out, if_neg hn0]; omega), rfl⟩
    case rest =>
    obtain ⟨rfl, rfl⟩ := hcut
    go_upto_if 90 with (fail)
    obtain ⟨X2, hX2⟩ : ∃ X : Int, X1 + (if h = true then 16 else 0) = X := ⟨_, rfl⟩
    have hX2b : 128 ≤ X2 ∧ X2 ≤ 191 := by rw [← hX2]; split <;> omega
    have HX2 := Lib.hid hX2; clear hX2
    go_cut [4] from 91 to 92 (fun x wx => x = .int .i64 X2 ∧ Hid (Lw w wx ⟨m, pt, sq, ts, ss, cs, h, pr, ex, py, pd⟩ ⟨ac, nc, cc, ae, ne, ce, ap, np, cp, ad, nd, cd⟩))
    case first =>
      cases h
      · go_wp2_with fail
        go_meet
        exact ⟨congrArg (Value.int .i64) (by rw [← HX2.out]; simp), HL⟩
      · go_wp2_with fail
        go_meet
        exact ⟨congrArg (Value.int .i64) (by rw [← HX2.out]; simp), HL⟩
    case rest =>
    clear HL d0 d1 d2 d3 d4 d5 d6 d7 d8 d9 d10
    obtain ⟨rfl, HL⟩ := hcut
    obtain ⟨w5, e1⟩ : ∃ W, W = wc := ⟨_, rfl⟩
    subst e1
    have bx := HL.out.box
    simp only [pkc] at bx
    have d0 : w5.cell? ⟨w.heap.size, 0, none⟩ = some (.bool m) := by rw [cell_of_row w5 _ 0 _ _ _ bx]; rfl
    have d1 : w5.cell? ⟨w.heap.size, 1, none⟩ = some (.int .i64 pt) := by rw [cell_of_row w5 _ 1 _ _ _ bx]; rfl
    have d2 : w5.cell? ⟨w.heap.size, 2, none⟩ = some (.int .u16 sq) := by rw [cell_of_row w5 _ 2 _ _ _ bx]; rfl
    have d3 : w5.cell? ⟨w.heap.size, 3, none⟩ = some (.int .u32 ts) := by rw [cell_of_row w5 _ 3 _ _ _ bx]; rfl
    have d4 : w5.cell? ⟨w.heap.size, 4, none⟩ = some (.int .u32 ss) := by rw [cell_of_row w5 _ 4 _ _ _ bx]; rfl
    have d5 : w5.cell? ⟨w.heap.size, 5, none⟩ = some (.slice ac nc cc) := by rw [cell_of_row w5 _ 5 _ _ _ bx]; rfl
    have d6 : w5.cell? ⟨w.heap.size, 6, none⟩ = some (.bool h) := by rw [cell_of_row w5 _ 6 _ _ _ bx]; rfl
    have d7 : w5.cell? ⟨w.heap.size, 7, none⟩ = some (.int .u16 pr) := by rw [cell_of_row w5 _ 7 _ _ _ bx]; rfl
    have d8 : w5.cell? ⟨w.heap.size, 8, none⟩ = some (.slice ae ne ce) := by rw [cell_of_row w5 _ 8 _ _ _ bx]; rfl
    have d9 : w5.cell? ⟨w.heap.size, 9, none⟩ = some (.slice ap np cp) := by rw [cell_of_row w5 _ 9 _ _ _ bx]; rfl
    have d10 : w5.cell? ⟨w.heap.size, 10, none⟩ = some (.slice ad nd cd) := by rw [cell_of_row w5 _ 10 _ _ _ bx]; rfl
    clear bx
    go_upto_if 94 with (fail)
    obtain ⟨Y1, hY1⟩ : ∃ X : Int, pt + (if m = true then 128 else 0) = X := ⟨_, rfl⟩
    have hY1b : 0 ≤ Y1 ∧ Y1 ≤ 255 := by rw [← hY1]; split <;> omega
    have HY1 := Lib.hid hY1; clear hY1
    go_cut [5] from 95 to 96 (fun x wx => x = .int .i64 Y1 ∧ Hid (Lw w wx ⟨m, pt, sq, ts, ss, cs, h, pr, ex, py, pd⟩ ⟨ac, nc, cc, ae, ne, ce, ap, np, cp, ad, nd, cd⟩))
    case first =>
      cases m
      · go_wp2_with fail
        go_meet
        exact ⟨congrArg (Value.int .i64) (by rw [← HY1.out]; simp), HL⟩
      · go_wp2_with fail
        go_meet
        exact ⟨congrArg (Value.int .i64) (by rw [← HY1.out]; simp), HL⟩
    case rest =>
    clear HL d0 d1 d2 d3 d4 d5 d6 d7 d8 d9 d10
    obtain ⟨rfl, HL⟩ := hcut
    obtain ⟨w6, e1⟩ : ∃ W, W = wc := ⟨_, rfl⟩
    subst e1
    go_upto_region 16 with (fail)
    go_cut [6] from 97 to 115 (fun x wx => ∃ (a : Option Addr) (c : Nat), x = .slice a 12 c ∧ Hid (BAt wx a 12 ([X2, Y1] ++ (Big 2 sq ++ (Big 4 ts ++ Big 4 ss)))) ∧ Hid (Lw w wx ⟨m, pt, sq, ts, ss, cs, h, pr, ex, py, pd⟩ ⟨ac, nc, cc, ae, ne, ce, ap, np, cp, ad, nd, cd⟩))
    case first =>
      have MK : Hid (∀ W, Lw w W ⟨m, pt, sq, ts, ss, cs, h, pr, ex, py, pd⟩ ⟨ac, nc, cc, ae, ne, ce, ap, np, cp, ad, nd, cd⟩ → (W.cell? ⟨w.heap.size, 2, none⟩ = some (.int .u16 sq) ∧ W.cell? ⟨w.heap.size, 3, none⟩ = some (.int .u32 ts) ∧ W.cell? ⟨w.heap.size, 4, none⟩ = some (.int .u32 ss)) ∧ Lw w W ⟨m, pt, sq, ts, ss, cs, h, pr, ex, py, pd⟩ ⟨ac, nc, cc, ae, ne, ce, ap, np, cp, ad, nd, cd⟩) := Lib.hid fun W hL => by
        have bx := hL.box
        simp only [pkc] at bx
        refine ⟨?_, hL⟩
        repeat' apply And.intro
        all_goals (rw [cell_of_row W _ _ _ _ _ bx]; rfl)
      have DR : Hid (∀ W : World, (W.cell? ⟨w.heap.size, 2, none⟩ = some (.int .u16 sq) ∧ W.cell? ⟨w.heap.size, 3, none⟩ = some (.int .u32 ts) ∧ W.cell? ⟨w.heap.size, 4, none⟩ = some (.int .u32 ss)) ∧ Lw w W ⟨m, pt, sq, ts, ss, cs, h, pr, ex, py, pd⟩ ⟨ac, nc, cc, ae, ne, ce, ap, np, cp, ad, nd, cd⟩ → (W.drew.cell? ⟨w.heap.size, 2, none⟩ = some (.int .u16 sq) ∧ W.drew.cell? ⟨w.heap.size, 3, none⟩ = some (.int .u32 ts) ∧ W.drew.cell? ⟨w.heap.size, 4, none⟩ = some (.int .u32 ss)) ∧ Lw w W.drew ⟨m, pt, sq, ts, ss, cs, h, pr, ex, py, pd⟩ ⟨ac, nc, cc, ae, ne, ce, ap, np, cp, ad, nd, cd⟩) := Lib.hid fun W hh => MK.out _ (hh.2.below (Below.refl _ W).drew)
      have hwa : IntKind.u8.wrap X2 = X2 := by simp [IntKind.wrap, IntKind.bits, IntKind.signed]; omega
      have hwb : IntKind.u8.wrap Y1 = Y1 := by simp [IntKind.wrap, IntKind.bits, IntKind.signed]; omega
      have hwx : IntKind.u64.wrap sq = sq := by simp [IntKind.wrap, IntKind.bits, IntKind.signed]; omega
      have hwy : IntKind.u64.wrap ts = ts := by simp [IntKind.wrap, IntKind.bits, IntKind.signed]; omega
      have hwz : IntKind.u64.wrap ss = ss := by simp [IntKind.wrap, IntKind.bits, IntKind.signed]; omega
      have hB3 : Below w6.heap.size w6 ((w6.alloc (.cells #[.int .u8 (X2), .int .u8 (Y1)] 5)).drew) := ((Below.refl _ w6).alloc (Nat.le_refl _) _).drew
      have HL3 := Lib.hid (HL.out.below hB3)
      have HT3 : Hid (BAt ((w6.alloc (.cells #[.int .u8 (X2), .int .u8 (Y1)] 5)).drew) (some ⟨w6.heap.size, 0, none⟩) 2 [X2, Y1]) := Lib.hid (lit_bat (l := [X2, Y1]) (heap_alloc_new w6 (.cells #[.int .u8 (X2), .int .u8 (Y1)] 5)) (fun q => by
        match q with
        | 0 => simp; omega
        | 1 => simp; omega
        | q + 2 => simp) (by simp))
      clear hB3
      have LIT : Hid (∀ W : World, BAt (W.alloc (.cells #[.int .u8 (X2), .int .u8 (Y1)] 5)) (some ⟨W.heap.size, 0, none⟩) 2 [X2, Y1]) := Lib.hid fun W => lit_bat (l := [X2, Y1]) (heap_alloc_new W _) (fun q => by
        match q with
        | 0 => simp; omega
        | 1 => simp; omega
        | q + 2 => simp) (by simp)
      have BAL : Hid (∀ W : World, Below W.heap.size W (W.alloc (.cells #[.int .u8 (X2), .int .u8 (Y1)] 5))) := Lib.hid fun W => (Below.refl _ W).alloc (Nat.le_refl _) _
      have HL3' := Lib.hid (HL.out.below (Below.refl _ w6).drew)
      have SAL : Hid (∀ W : World, (W.cell? ⟨w.heap.size, 2, none⟩ = some (.int .u16 sq) ∧ W.cell? ⟨w.heap.size, 3, none⟩ = some (.int .u32 ts) ∧ W.cell? ⟨w.heap.size, 4, none⟩ = some (.int .u32 ss)) ∧ Lw w W ⟨m, pt, sq, ts, ss, cs, h, pr, ex, py, pd⟩ ⟨ac, nc, cc, ae, ne, ce, ap, np, cp, ad, nd, cd⟩ → ((W.alloc (.cells #[.int .u8 (X2), .int .u8 (Y1)] 5)).cell? ⟨w.heap.size, 2, none⟩ = some (.int .u16 sq) ∧ (W.alloc (.cells #[.int .u8 (X2), .int .u8 (Y1)] 5)).cell? ⟨w.heap.size, 3, none⟩ = some (.int .u32 ts) ∧ (W.alloc (.cells #[.int .u8 (X2), .int .u8 (Y1)] 5)).cell? ⟨w.heap.size, 4, none⟩ = some (.int .u32 ss)) ∧ Lw w (W.alloc (.cells #[.int .u8 (X2), .int .u8 (Y1)] 5)) ⟨m, pt, sq, ts, ss, cs, h, pr, ex, py, pd⟩ ⟨ac, nc, cc, ae, ne, ce, ap, np, cp, ad, nd, cd⟩) := Lib.hid fun W hh => MK.out _ (hh.2.below (BAL.out W))
      have hcur := MK.out _ HL.out
      have hS3 := MK.out _ HL3.out
      go_region_held3 (fun W : World => (W.cell? ⟨w.heap.size, 2, none⟩ = some (.int .u16 sq) ∧ W.cell? ⟨w.heap.size, 3, none⟩ = some (.int .u32 ts) ∧ W.cell? ⟨w.heap.size, 4, none⟩ = some (.int .u32 ss)) ∧ Lw w W ⟨m, pt, sq, ts, ss, cs, h, pr, ex, py, pd⟩ ⟨ac, nc, cc, ae, ne, ce, ap, np, cp, ad, nd, cd⟩) (first | with_reducible assumption | with_reducible exact DR.out _ (by with_reducible assumption) | with_reducible exact hS3 | with_reducible exact SAL.out _ (by with_reducible assumption) | with_reducible exact DR.out _ (SAL.out _ (by with_reducible assumption)) | with_reducible exact hS12 _ | with_reducible exact hS12' _ | with_reducible exact hS9)
        (first
          | (go_at_call_of 23 (Value.int IntKind.u64 sq); refine (rbig_any sq 2 _ v8.1 (by omega) (by decide)).mono ?_; rintro e w9 ⟨a9, c9, rfl, hO9, hB9⟩; (first | with_reducible have hS9 := MK.out _ (HL3.out.below hB9) | with_reducible have hS9 := MK.out _ (HL3'.out.below hB9)); (first | with_reducible have HT9 := Lib.hid (HT3.out.below hB9) | with_reducible have HT9 := Lib.hid trivial); have HG9 := Lib.hid hO9.bat; clear hO9 hB9)
          | (go_at_call_of 23 (Value.int IntKind.u64 ts); refine (rbig_any ts 4 _ v9.1 (by omega) (by decide)).mono ?_; rintro e w10 ⟨a10, c10, rfl, hO10, hB10⟩; (first | with_reducible have hS10 := MK.out _ (hS9.2.below hB10) | with_reducible have hS10 := MK.out _ ((hS9.2.below (BAL.out w9)).below hB10)); (first | with_reducible have HT10 := Lib.hid (HT9.out.below hB10) | with_reducible have HT10 := Lib.hid ((LIT.out w9).below hB10) | with_reducible have HT10 := Lib.hid trivial); (first | with_reducible have HG9' := Lib.hid (HG9.out.below hB10) | with_reducible have HG9' := Lib.hid ((HG9.out.below (BAL.out w9)).below hB10)); have HG10 := Lib.hid hO10.bat; clear hO10 hB10)
          | (go_at_call_of 23 (Value.int IntKind.u64 ss); refine (rbig_any ss 4 _ v10.1 (by omega) (by decide)).mono ?_; rintro e w11 ⟨a11, c11, rfl, hO11, hB11⟩; (first | with_reducible have hS11 := MK.out _ (hS10.2.below hB11) | with_reducible have hS11 := MK.out _ ((hS10.2.below (BAL.out w10)).below hB11)); (first | with_reducible have HT11 := Lib.hid (HT10.out.below hB11) | with_reducible have HT11 := Lib.hid ((LIT.out w10).below hB11) | with_reducible have HT11 := Lib.hid trivial); (first | with_reducible have HG9'' := Lib.hid (HG9'.out.below hB11) | with_reducible have HG9'' := Lib.hid ((HG9'.out.below (BAL.out w10)).below hB11)); (first | with_reducible have HG10' := Lib.hid (HG10.out.below hB11) | with_reducible have HG10' := Lib.hid ((HG10.out.below (BAL.out w10)).below hB11)); have HG11 := Lib.hid hO11.bat; have hS12 := (fun o => MK.out _ (hS11.2.below ((Below.refl _ w11).alloc (Nat.le_refl _) o))); have hS12' := (fun o => MK.out _ ((hS11.2.below (BAL.out w11)).below ((Below.refl _ _).alloc (Nat.le_refl _) o))); clear hO11 hB11)
          | (go_at_call 22; (first | with_reducible refine (join4g w11 w11.heap.size rfl _ _ _ _ _ _ _ _ _ _ _ _ _ _ _ _ HT11.out HG9''.out HG10'.out HG11.out (by omega) (by omega) (by omega) (by omega)).mono ?_ | with_reducible refine (join4g _ (w11.heap.size + 1) (by simp) _ _ _ _ _ _ _ _ _ _ _ _ _ _ _ _ (LIT.out w11) (HG9''.out.below (BAL.out w11)) (HG10'.out.below (BAL.out w11)) (HG11.out.below (BAL.out w11)) (by omega) (by omega) (by omega) (by omega)).mono ?_); rintro e w13 ⟨a13, c13, rfl, hO13, hB13⟩; (first | with_reducible have hS9 := MK.out _ ((hS12 _).2.below hB13) | with_reducible have hS9 := MK.out _ ((hS12' _).2.below hB13)); have HT13 := Lib.hid hO13.bat; clear hO13 hB13))
      all_goals go_wp2_with fail
      all_goals go_meet
      all_goals exact ⟨a13, c13, rfl, HT13, Lib.hid hS9.2⟩
    case rest =>
    clear HL
    obtain ⟨a7, c7, rfl, HT, HL⟩ := hcut
    obtain ⟨w7, e1⟩ : ∃ W, W = wc := ⟨_, rfl⟩
    subst e1
    obtain ⟨H0, hH0⟩ : ∃ L, [X2, Y1] ++ (Big 2 sq ++ (Big 4 ts ++ Big 4 ss)) = L := ⟨_, rfl⟩
    rw [hH0] at HT
    have HH0 := Lib.hid hH0; clear hH0
    go_wp2_with fail
    go_loopw [6, 7] (fun x iv wr => ∃ (i : Nat) (a' : Option Addr) (c' : Nat), i ≤ nc ∧ iv = .int .i64 i ∧ x = .slice a' (12 + 4 * i) c' ∧ Hid (BAt wr a' (12 + 4 * i) (H0 ++ longs (cs.take i))) ∧ Hid (Lw w wr ⟨m, pt, sq, ts, ss, cs, h, pr, ex, py, pd⟩ ⟨ac, nc, cc, ae, ne, ce, ap, np, cp, ad, nd, cd⟩)) (fun _ iv _ => nc - (intOf iv).toNat)
    case atStart => exact ⟨0, a7, c7, Nat.zero_le _, rfl, rfl, Lib.hid (by simpa [longs] using HT.out), HL⟩
    case round =>
      clear HT HL
      obtain ⟨i, a8, c8, hi, rfl, rfl, HT, HL⟩ := hrel
      have bx := HL.out.box
      simp only [pkc] at bx
      have d5 : wr.cell? ⟨w.heap.size, 5, none⟩ = some (.slice ac nc cc) := by rw [cell_of_row wr _ 5 _ _ _ bx]; rfl
      by_cases hlt : i < nc
      · have hiz : (i : Int) < (nc : Int) := by omega
        have hi0 : (0 : Int) ≤ (i : Int) := by omega
        obtain ⟨hcl, gb, go, hgr⟩ := HP.out.csrc
        obtain ⟨g1, g2, g3, g4, g5⟩ := hgr i hlt
        simp only at g1 g2 g3 g4 g5 hcl
        have HLB : Hid (∀ W, Below wr.heap.size wr W → Lw w W ⟨m, pt, sq, ts, ss, cs, h, pr, ex, py, pd⟩ ⟨ac, nc, cc, ae, ne, ce, ap, np, cp, ad, nd, cd⟩) := Lib.hid fun W hW => HL.out.below hW
        subst g1
        have k0 : wr.cell? ⟨gb, go + i, none⟩ = some (.int .u32 (cs.getD i 0)) := (HL.out.low.cell (p := ⟨gb, go + i, none⟩) g2).trans g3
        have hlt2 : i < cs.length := by omega
        have HST := Lib.hid (longs_take cs i hlt2)
        obtain ⟨v, hv⟩ : ∃ v, cs.getD i 0 = v := ⟨_, rfl⟩
        rw [hv] at k0 g4 g5 HST
        have hwv : IntKind.u64.wrap v = v := by simp [IntKind.wrap, IntKind.bits, IntKind.signed]; omega
        have HBIG := Lib.hid (rbig_any v 4 wr g4 (by omega) (by decide))
        clear hgr g3 bx hv
        go_wp2_with fail
        refine (HBIG.out).mono ?_
        rintro e w8 ⟨a9, c9, rfl, hO9, hB9⟩
        have HJ := Lib.hid (join2 w8 a8 a9 (12 + 4 * i) 4 c8 c9 _ _ (HT.out.below hB9) hO9.bat (by omega) (by omega))
        have HB9 := Lib.hid hB9
        clear hO9 hB9 HBIG
        go_wp2_with fail
        refine (HJ.out).mono ?_
        rintro e w9 ⟨a10, c10, rfl, hO10, hB10⟩
        have hB11 : Below wr.heap.size wr w9 := (HB9.out.alloc HB9.out.size _).trans (hB10.mono (by have := HB9.out.size; simp; omega))
        have HN : Hid (BAt w9 a10 (12 + 4 * i + 4) (H0 ++ longs (cs.take (i + 1)))) := Lib.hid (by
          have := hO10.bat
          rw [List.append_assoc] at this
          rw [HST.out]; exact this)
        have HL2 := Lib.hid (HLB.out _ hB11)
        clear hO10 hB10 hB11 HJ HB9 HLB HT HL
        go_wp2
        go_roundw
        case rel => exact ⟨i + 1, a10, c10, by omega, by go_num, by rw [show 12 + 4 * i + 4 = 12 + 4 * (i + 1) from by omega], by rw [show 12 + 4 * (i + 1) = 12 + 4 * i + 4 from by omega]; exact HN, HL2⟩
        case measure => simp [intOf]; omega
      · have hin : i = nc := by omega
        have hiz : ¬ (i : Int) < (nc : Int) := by omega
        have hcl := HP.out.csrc.1
        simp only at hcl
        rw [List.take_of_length_le (by omega)] at HT
        have hi15 : i ≤ 15 := by omega
        have d6 : wr.cell? ⟨w.heap.size, 6, none⟩ = some (.bool h) := by rw [cell_of_row wr _ 6 _ _ _ bx]; rfl
        have d7 : wr.cell? ⟨w.heap.size, 7, none⟩ = some (.int .u16 pr) := by rw [cell_of_row wr _ 7 _ _ _ bx]; rfl
        have d8 : wr.cell? ⟨w.heap.size, 8, none⟩ = some (.slice ae ne ce) := by rw [cell_of_row wr _ 8 _ _ _ bx]; rfl
        have d9 : wr.cell? ⟨w.heap.size, 9, none⟩ = some (.slice ap np cp) := by rw [cell_of_row wr _ 9 _ _ _ bx]; rfl
        have d10 : wr.cell? ⟨w.heap.size, 10, none⟩ = some (.slice ad nd cd) := by rw [cell_of_row wr _ 10 _ _ _ bx]; rfl
        have HZ' := HZ.out
        clear hin hlt hcl bx
        cases h
        case false =>
          have HJ := Lib.hid (join3 wr a8 ap ad (12 + 4 * i) np nd c8 cp cd _ _ _ HT.out (HP.out.pay.below HL.out.low) (HP.out.pad.below HL.out.low) (by omega) (by omega) (by omega))
          have hE := enc_parts (⟨m, pt, sq, ts, ss, cs, false, pr, ex, py, pd⟩ : Pk) ⟨ac, nc, cc, ae, ne, ce, ap, np, cp, ad, nd, cd⟩ X1 X2 Y1 HX1.out HX2.out HY1.out hX2b hY1b
          have HF : Hid (∀ a9 c9 w9, Own w9 (wr.alloc (.cells #[.slice a8 (12 + 4 * i) c8, .slice ap np cp, .slice ad nd cd] 25)).heap.size a9 (12 + 4 * i + (np + nd)) c9 (H0 ++ longs cs ++ (py ++ pd)) → Below (wr.alloc (.cells #[.slice a8 (12 + 4 * i) c8, .slice ap np cp, .slice ad nd cd] 25)).heap.size (wr.alloc (.cells #[.slice a8 (12 + 4 * i) c8, .slice ap np cp, .slice ad nd cd] 25)) w9 → Post (.returned (.tuple #[.slice a9 (12 + 4 * i + (np + nd)) c9, .int .i64 0])) w9) := Lib.hid fun a9 c9 w9 hO hB => by
            have hz := HL.out.low.size
            have hsz : w.heap.size ≤ (wr.alloc (.cells #[.slice a8 (12 + 4 * i) c8, .slice ap np cp, .slice ad nd cd] 25)).heap.size := by simp; omega
            rw [← HPOST.out, hE, HH0.out]
            exact ⟨a9, _, c9, rfl, by simpa using hO.mono hsz, (HL.out.low.alloc hz _).trans (hB.mono hsz)⟩
          clear hE
          go_wp2_with fail
          refine (HJ.out).mono ?_
          rintro e w9 ⟨a9, c9, rfl, hO9, hB9⟩
          have HFF := Lib.hid (HF.out a9 c9 w9 hO9 hB9)
          clear hO9 hB9 HF HJ
          go_wp2_with fail
          exact HFF.out
        case true =>
          have hwp : IntKind.u64.wrap pr = pr := by simp [IntKind.wrap, IntKind.bits, IntKind.signed]; omega
          have hdv : ((ne : Int)).tdiv 4 = ((ne / 4 : Nat) : Int) := by rw [Int.tdiv_eq_ediv_of_nonneg (by omega)]; omega
          obtain ⟨q, hq⟩ : ∃ q : Nat, ne / 4 = q := ⟨_, rfl⟩
          rw [hq] at hdv
          have hqb : q ≤ 100000 := by omega
          have hwq : IntKind.i64.wrap (q : Int) = (q : Int) := by rw [IntKind.wrap_i64]; omega
          have hwq2 : IntKind.u64.wrap (q : Int) = (q : Int) := by simp [IntKind.wrap, IntKind.bits, IntKind.signed]; omega
          have HQ := Lib.hid hq; clear hq
          have hBX : Hid (∀ W, Below wr.heap.size wr W → W.heap[w.heap.size]? = some (.cells #[.bool m, .int .i64 pt, .int .u16 sq, .int .u32 ts, .int .u32 ss, .slice ac nc cc, .bool true, .int .u16 pr, .slice ae ne ce, .slice ap np cp, .slice ad nd cd] 27 (0, 0))) := Lib.hid fun W hW => (HL.out.below hW).box
          have MK : Hid (∀ W : World, Below wr.heap.size wr W → (W.cell? ⟨w.heap.size, 7, none⟩ = some (.int .u16 pr) ∧ W.cell? ⟨w.heap.size, 8, none⟩ = some (.slice ae ne ce)) ∧ Below wr.heap.size wr W) := Lib.hid fun W hW => by
            have bx := hBX.out W hW
            exact ⟨⟨by rw [cell_of_row W _ _ _ _ _ bx]; rfl, by rw [cell_of_row W _ _ _ _ _ bx]; rfl⟩, hW⟩
          have TR : Hid (∀ W W' : World, Below wr.heap.size wr W → Below W.heap.size W W' → Below wr.heap.size wr W') := Lib.hid fun W W' h h' => h.trans (h'.mono h.size)
          have DR : Hid (∀ W : World, (W.cell? ⟨w.heap.size, 7, none⟩ = some (.int .u16 pr) ∧ W.cell? ⟨w.heap.size, 8, none⟩ = some (.slice ae ne ce)) ∧ Below wr.heap.size wr W → (W.drew.cell? ⟨w.heap.size, 7, none⟩ = some (.int .u16 pr) ∧ W.drew.cell? ⟨w.heap.size, 8, none⟩ = some (.slice ae ne ce)) ∧ Below wr.heap.size wr W.drew) := Lib.hid fun W h => MK.out _ (TR.out _ _ h.2 (Below.refl _ W).drew)
          have B1 : Hid (∀ W, Calls Try.prog 23 #[.int .u64 pr, .int .i64 2] W (NewB 2 (Big 2 pr) W)) := Lib.hid fun W => rbig_any pr 2 W v7.1 (by omega) (by decide)
          have B2 : Hid (∀ W, Calls Try.prog 23 #[.int .u64 (q : Int), .int .i64 2] W (NewB 2 (Big 2 q) W)) := Lib.hid fun W => rbig_any q 2 W (by omega) (by omega) (by decide)
          have HEXT : Hid (∀ W, Below wr.heap.size wr W → BAt W ae ne ex) := Lib.hid fun W hW => (HP.out.ext.below HL.out.low).below hW
          have HTB : Hid (∀ W, Below wr.heap.size wr W → BAt W a8 (12 + 4 * i) (H0 ++ longs cs)) := Lib.hid fun W hW => HT.out.below hW
          have HLOWW : Hid (∀ W, Below wr.heap.size wr W → Below w.heap.size w W) := Lib.hid fun W hW => HL.out.low.trans (hW.mono HL.out.low.size)
          have hSr := MK.out _ (Below.refl _ wr)
          have hSd := MK.out _ (Below.refl _ wr).drew
          go_upto_region 22 with (fail)
          clear d5 d6 d7 d8 d9 d10
          go_region_held3 (fun W : World => (W.cell? ⟨w.heap.size, 7, none⟩ = some (.int .u16 pr) ∧ W.cell? ⟨w.heap.size, 8, none⟩ = some (.slice ae ne ce)) ∧ Below wr.heap.size wr W) (first | with_reducible assumption | with_reducible exact DR.out _ (by with_reducible assumption) | with_reducible exact hS12 _)
            (first
              | (go_at_call_of 23 (Value.int IntKind.u64 pr); refine (B1.out _).mono ?_; rintro e w10 ⟨a10, c10, rfl, hO10, hB10⟩; with_reducible have hB10' := TR.out _ _ hSd.2 hB10; with_reducible have hS10 := MK.out _ hB10'; have HG10 := Lib.hid hO10.bat; clear hO10 hB10 hB10')
              | (go_at_call_of 23 (Value.int IntKind.u64 (q : Int)); refine (B2.out _).mono ?_; rintro e w11 ⟨a11, c11, rfl, hO11, hB11⟩; with_reducible have hB11' := TR.out _ _ hS10.2 hB11; with_reducible have hS11 := MK.out _ hB11'; have HG11 := Lib.hid hO11.bat; have HG10' := Lib.hid (HG10.out.below hB11); have hS12 := (fun o => MK.out _ (TR.out _ _ hB11' ((Below.refl _ w11).alloc (Nat.le_refl _) o))); clear hO11 hB11 hB11')
              | (go_at_call 22; (with_reducible refine (join4g w11 w11.heap.size rfl _ _ _ _ _ _ _ _ _ _ _ _ _ _ _ _ (HTB.out _ hS11.2) HG10'.out HG11.out (HEXT.out _ hS11.2) (by omega) (by omega) (by omega) (by omega)).mono ?_); rintro e w13 ⟨a13, c13, rfl, hO13, hB13⟩; with_reducible have hB13' := TR.out _ _ (hS12 _).2 hB13; with_reducible have hS13 := MK.out _ hB13'; have HT13 := Lib.hid hO13.bat; clear hO13 hB13 hB13'))
          have hB13w := HLOWW.out _ hS13.2
          have bx := hBX.out _ hS13.2
          have d9 : w13.cell? ⟨w.heap.size, 9, none⟩ = some (.slice ap np cp) := by rw [cell_of_row w13 _ 9 _ _ _ bx]; rfl
          have d10 : w13.cell? ⟨w.heap.size, 10, none⟩ = some (.slice ad nd cd) := by rw [cell_of_row w13 _ 10 _ _ _ bx]; rfl
          have HJ := Lib.hid (join3 w13 a13 ap ad (12 + 4 * i + (2 + (2 + ne))) np nd c13 cp cd _ _ _ HT13.out (HP.out.pay.below hB13w) (HP.out.pad.below hB13w) (by omega) (by omega) (by omega))
          have hE := enc_parts (⟨m, pt, sq, ts, ss, cs, true, pr, ex, py, pd⟩ : Pk) ⟨ac, nc, cc, ae, ne, ce, ap, np, cp, ad, nd, cd⟩ X1 X2 Y1 HX1.out HX2.out HY1.out hX2b hY1b
          have HB13w := Lib.hid hB13w
          have HF : Hid (∀ a9 c9 w9, Own w9 (w13.alloc (.cells #[.slice a13 (12 + 4 * i + (2 + (2 + ne))) c13, .slice ap np cp, .slice ad nd cd] 25)).heap.size a9 (12 + 4 * i + (2 + (2 + ne)) + (np + nd)) c9 ((H0 ++ longs cs ++ (Big 2 pr ++ (Big 2 q ++ ex))) ++ (py ++ pd)) → Below (w13.alloc (.cells #[.slice a13 (12 + 4 * i + (2 + (2 + ne))) c13, .slice ap np cp, .slice ad nd cd] 25)).heap.size (w13.alloc (.cells #[.slice a13 (12 + 4 * i + (2 + (2 + ne))) c13, .slice ap np cp, .slice ad nd cd] 25)) w9 → Post (.returned (.tuple #[.slice a9 (12 + 4 * i + (2 + (2 + ne)) + (np + nd)) c9, .int .i64 0])) w9) := Lib.hid fun a9 c9 w9 hO hB => by
            have hz := HB13w.out.size
            have hsz : w.heap.size ≤ (w13.alloc (.cells #[.slice a13 (12 + 4 * i + (2 + (2 + ne))) c13, .slice ap np cp, .slice ad nd cd] 25)).heap.size := by simp; omega
            rw [← HPOST.out, hE, HH0.out]
            simp only [HQ.out]
            exact ⟨a9, _, c9, rfl, by simpa using hO.mono hsz, (HB13w.out.alloc hz _).trans (hB.mono hsz)⟩
          clear hE hB13w bx hSr hSd hS10 hS11 hS12 hS13 HG10 HG10' HG11 HT13 hBX MK TR DR B1 B2 HEXT HTB HLOWW
          go_wp2_with fail
          refine (HJ.out).mono ?_
          rintro e w9 ⟨a9, c9, rfl, hO9, hB9⟩
          have HFF := Lib.hid (HF.out a9 c9 w9 (by simpa using hO9) hB9)
          clear hO9 hB9 HF HJ
          go_wp2_with fail
          exact HFF.out
end Go.Proofs.Ytkoldfoliigifaa

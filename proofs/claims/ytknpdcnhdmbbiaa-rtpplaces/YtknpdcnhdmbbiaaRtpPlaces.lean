
/-
  RtpPlaces: the walk.
-/
import Derived.Test.YtknpdcnhdmbbiaaRtpBack
import Derived.Test.YtknpdcnhdmbbiaaRtpPlain4
namespace Go.Proofs.Ytknpdcnhdmbbiaa
open Go.RowKit Go.Shelf
set_option linter.unusedVariables false
theorem vld_upd {p : Pk} {s : Pl} (h : Vld p s) {x y z : Int} (hx : 0 ≤ x ∧ x < 65536) (hy : 0 ≤ y ∧ y < 4294967296) (hz : 0 ≤ z ∧ z < 4294967296) (a1 a2 a3 a4 : Option Addr) (c1 c2 c3 c4 : Nat) : Vld (upd p x y z) ⟨a1, s.nc, c1, a2, s.ne, c2, a3, s.np, c3, a4, s.nd, c4⟩ :=
  ⟨h.nc, h.ne, h.np, h.nd, h.cs, hx, hy, hz, h.prof, h.pt, h.n15, h.ext, h.noext, h.pad, h.size, h.okp⟩
theorem out_of_enc {p : Pk} {s : Pl} (h : Vld p s) : pcodeF (sz p s) (enc p s) = 0 := by
  unfold pcodeF; rw [if_neg (by have := h.size; omega)]
  have := enc_code h; rwa [enc_len h] at this
/-- What RtpPlaces asks of the bytes l of p and r of q. -/
structure Plc (p : Pk) (nc : Nat) (x y z : Int) (n : Nat) (l r : List Int) : Prop where
  n12 : 12 ≤ n
  n15 : n ≤ 1500
  len : r.length = n
  code : pcodeF n r = 0
  seq : (ppk r).seq = x
  ssrc : (ppk r).ssrc = z
  pt : (ppk r).pt = p.pt
  two : r.take 2 = l.take 2
  rest : r.drop 12 = l.drop 12
  mid : (r.drop 2).take 10 = [Big 2 x, Big 4 y, Big 4 z].flatten
  mark : decide (128 ≤ l.getD 1 0) = p.marker
  cnt : bits .and .u8 (l.getD 0 0) 15 = (nc : Int)
theorem plc_of {p : Pk} {s : Pl} (h : Vld p s) {x y z : Int} (hx : 0 ≤ x ∧ x < 65536) (hy : 0 ≤ y ∧ y < 4294967296) (hz : 0 ≤ z ∧ z < 4294967296) (a1 a2 a3 a4 : Option Addr) (c1 c2 c3 c4 : Nat) : Plc p s.nc x y z (sz p s) (enc p s) (enc (upd p x y z) ⟨a1, s.nc, c1, a2, s.ne, c2, a3, s.np, c3, a4, s.nd, c4⟩) := by
  have h2 := vld_upd h hx hy hz a1 a2 a3 a4 c1 c2 c3 c4
  have hb := enc_back h2
  refine ⟨by unfold sz; omega, h.size, enc_len h2, out_of_enc h2, by rw [hb]; rfl, by rw [hb]; rfl, by rw [hb]; rfl, upd_take p s x y z _ _ _ _ _ _ _ _, upd_drop p s x y z _ _ _ _ _ _ _ _, upd_mid _ _, enc_mark h, enc_cnt h⟩
set_option maxHeartbeats 8000000 in
set_option maxRecDepth 100000 in
theorem walk_RtpPlaces (p : Pk) (s : Pl) (x y z3 : Int) (w : World) (hp : PkAt w p s) (hx : 0 ≤ x ∧ x < 65536) (hy : 0 ≤ y ∧ y < 4294967296) (hz : 0 ≤ z3 ∧ z3 < 4294967296) :
    Calls Try.prog 9 #[.agg (pkc p s), .int .u16 x, .int .u32 y, .int .u32 z3] w (TrueB w) := by
  have HL0 := Lib.hid (Lw.start w p s)
  have HFEW : Hid (∀ W, Calls Try.prog 21 #[.agg (pkc p s)] W (ValB (.bool (few s)) W)) := Lib.hid fun W => few_any p s W
  have HWR : Hid (few s = true → ∀ W, Below w.heap.size w W → Calls Try.prog 22 #[.agg (pkc p s)] W (WrOut (wcode p s) (wbytes p s) W)) := Lib.hid fun hf W hB => write5_any p s W (hp.below hB) (few_sm hf)
  have HCL : Hid (few s = true → ∀ W, Below w.heap.size w W → Calls Try.prog 29 #[.agg (pkc p s)] W (ClOut p s W)) := Lib.hid fun hf W hB => clone_any p s W (hp.below hB) (few_sm hf)
  have HWQ : Hid (few s = true → ∀ W a1 a2 a3 a4 c1 c2 c3 c4, PkAt W (upd p x y z3) ⟨a1, s.nc, c1, a2, s.ne, c2, a3, s.np, c3, a4, s.nd, c4⟩ → Calls Try.prog 22 #[.agg (pkc (upd p x y z3) ⟨a1, s.nc, c1, a2, s.ne, c2, a3, s.np, c3, a4, s.nd, c4⟩)] W (WrOut (wcode p s) (wbytes (upd p x y z3) ⟨a1, s.nc, c1, a2, s.ne, c2, a3, s.np, c3, a4, s.nd, c4⟩) W)) := Lib.hid fun hf W a1 a2 a3 a4 c1 c2 c3 c4 hq => write5_any _ _ W hq (few_sm hf)
  have HNL : Hid (wcode p s ≠ 0 → wbytes p s = [] ∧ ∀ a1 a2 a3 a4 c1 c2 c3 c4, wbytes (upd p x y z3) ⟨a1, s.nc, c1, a2, s.ne, c2, a3, s.np, c3, a4, s.nd, c4⟩ = []) := Lib.hid fun h0 => ⟨by unfold wbytes; rw [if_neg h0], fun a1 a2 a3 a4 c1 c2 c3 c4 => by unfold wbytes; rw [upd_code, if_neg h0]⟩
  have HPL : Hid (wcode p s = 0 → (wbytes p s).length = sz p s ∧ ∀ a1 a2 a3 a4 c1 c2 c3 c4, Plc p s.nc x y z3 (sz p s) (wbytes p s) (wbytes (upd p x y z3) ⟨a1, s.nc, c1, a2, s.ne, c2, a3, s.np, c3, a4, s.nd, c4⟩)) := Lib.hid fun h0 => by
    have hv := vld_of hp h0
    refine ⟨by unfold wbytes; rw [if_pos h0]; exact enc_len hv, fun a1 a2 a3 a4 c1 c2 c3 c4 => ?_⟩
    have := plc_of hv hx hy hz a1 a2 a3 a4 c1 c2 c3 c4
    unfold wbytes
    rw [if_pos h0, upd_code, if_pos h0]; exact this
  have HRG := Lib.hid (show (0 ≤ p.profile ∧ p.profile < 65536) from hp.prof)
  clear hp
  generalize few s = fw at HFEW HWR HCL HWQ
  generalize wcode p s = wc at HWR HWQ HNL HPL
  generalize wbytes p s = wb at HWR HNL HPL
  generalize sz p s = zz at HPL
  obtain ⟨m, pt, sq, ts, ss, cs, h, pr, ex, py, pd⟩ := p
  obtain ⟨ac, nc, cc, ae, ne, ce, ap, np, cp, ad, nd, cd⟩ := s
  simp only [pkc, upd] at HFEW HWR HCL HWQ HNL HPL HRG ⊢
  go_enter Try.func9, Try.ntmps9
  go_wp2_with fail
  refine (alive5 _).mono ?_
  rintro e w1 ⟨rfl, hB1⟩
  have HL := Lib.hid (HL0.out.below hB1)
  have bx := HL.out.box
  simp only [pkc] at bx
  have d0 : w1.cell? ⟨w.heap.size, 0, none⟩ = some (.bool m) := by rw [cell_of_row w1 _ 0 _ _ _ bx]; rfl
  have d1 : w1.cell? ⟨w.heap.size, 1, none⟩ = some (.int .i64 pt) := by rw [cell_of_row w1 _ 1 _ _ _ bx]; rfl
  have d2 : w1.cell? ⟨w.heap.size, 2, none⟩ = some (.int .u16 sq) := by rw [cell_of_row w1 _ 2 _ _ _ bx]; rfl
  have d3 : w1.cell? ⟨w.heap.size, 3, none⟩ = some (.int .u32 ts) := by rw [cell_of_row w1 _ 3 _ _ _ bx]; rfl
  have d4 : w1.cell? ⟨w.heap.size, 4, none⟩ = some (.int .u32 ss) := by rw [cell_of_row w1 _ 4 _ _ _ bx]; rfl
  have d5 : w1.cell? ⟨w.heap.size, 5, none⟩ = some (.slice ac nc cc) := by rw [cell_of_row w1 _ 5 _ _ _ bx]; rfl
  have d6 : w1.cell? ⟨w.heap.size, 6, none⟩ = some (.bool h) := by rw [cell_of_row w1 _ 6 _ _ _ bx]; rfl
  have d7 : w1.cell? ⟨w.heap.size, 7, none⟩ = some (.int .u16 pr) := by rw [cell_of_row w1 _ 7 _ _ _ bx]; rfl
  have d8 : w1.cell? ⟨w.heap.size, 8, none⟩ = some (.slice ae ne ce) := by rw [cell_of_row w1 _ 8 _ _ _ bx]; rfl
  have d9 : w1.cell? ⟨w.heap.size, 9, none⟩ = some (.slice ap np cp) := by rw [cell_of_row w1 _ 9 _ _ _ bx]; rfl
  have d10 : w1.cell? ⟨w.heap.size, 10, none⟩ = some (.slice ad nd cd) := by rw [cell_of_row w1 _ 10 _ _ _ bx]; rfl
  clear bx hB1 HL0
  go_wp2_with fail
  refine (HFEW.out _).mono ?_
  rintro e w2 ⟨rfl, hB2⟩
  have HL := Lib.hid (HL.out.below hB2)
  have bx := HL.out.box
  simp only [pkc] at bx
  clear d0 d1 d2 d3 d4 d5 d6 d7 d8 d9 d10
  have d0 : w2.cell? ⟨w.heap.size, 0, none⟩ = some (.bool m) := by rw [cell_of_row w2 _ 0 _ _ _ bx]; rfl
  have d1 : w2.cell? ⟨w.heap.size, 1, none⟩ = some (.int .i64 pt) := by rw [cell_of_row w2 _ 1 _ _ _ bx]; rfl
  have d2 : w2.cell? ⟨w.heap.size, 2, none⟩ = some (.int .u16 sq) := by rw [cell_of_row w2 _ 2 _ _ _ bx]; rfl
  have d3 : w2.cell? ⟨w.heap.size, 3, none⟩ = some (.int .u32 ts) := by rw [cell_of_row w2 _ 3 _ _ _ bx]; rfl
  have d4 : w2.cell? ⟨w.heap.size, 4, none⟩ = some (.int .u32 ss) := by rw [cell_of_row w2 _ 4 _ _ _ bx]; rfl
  have d5 : w2.cell? ⟨w.heap.size, 5, none⟩ = some (.slice ac nc cc) := by rw [cell_of_row w2 _ 5 _ _ _ bx]; rfl
  have d6 : w2.cell? ⟨w.heap.size, 6, none⟩ = some (.bool h) := by rw [cell_of_row w2 _ 6 _ _ _ bx]; rfl
  have d7 : w2.cell? ⟨w.heap.size, 7, none⟩ = some (.int .u16 pr) := by rw [cell_of_row w2 _ 7 _ _ _ bx]; rfl
  have d8 : w2.cell? ⟨w.heap.size, 8, none⟩ = some (.slice ae ne ce) := by rw [cell_of_row w2 _ 8 _ _ _ bx]; rfl
  have d9 : w2.cell? ⟨w.heap.size, 9, none⟩ = some (.slice ap np cp) := by rw [cell_of_row w2 _ 9 _ _ _ bx]; rfl
  have d10 : w2.cell? ⟨w.heap.size, 10, none⟩ = some (.slice ad nd cd) := by rw [cell_of_row w2 _ 10 _ _ _ bx]; rfl
  clear bx hB2
  cases fw
  · go_wp2
    go_ret
    exact ⟨rfl, HL.out.low⟩
  go_wp2_with fail
  refine (HWR.out (by trivial) _ HL.out.low).mono ?_
  rintro e w3 ⟨aw, nw, cw, rfl, hO3, hB3⟩
  have HL := Lib.hid (HL.out.below hB3)
  have HO3 := Lib.hid hO3
  have bx := HL.out.box
  simp only [pkc] at bx
  clear d0 d1 d2 d3 d4 d5 d6 d7 d8 d9 d10
  have d0 : w3.cell? ⟨w.heap.size, 0, none⟩ = some (.bool m) := by rw [cell_of_row w3 _ 0 _ _ _ bx]; rfl
  have d1 : w3.cell? ⟨w.heap.size, 1, none⟩ = some (.int .i64 pt) := by rw [cell_of_row w3 _ 1 _ _ _ bx]; rfl
  have d2 : w3.cell? ⟨w.heap.size, 2, none⟩ = some (.int .u16 sq) := by rw [cell_of_row w3 _ 2 _ _ _ bx]; rfl
  have d3 : w3.cell? ⟨w.heap.size, 3, none⟩ = some (.int .u32 ts) := by rw [cell_of_row w3 _ 3 _ _ _ bx]; rfl
  have d4 : w3.cell? ⟨w.heap.size, 4, none⟩ = some (.int .u32 ss) := by rw [cell_of_row w3 _ 4 _ _ _ bx]; rfl
  have d5 : w3.cell? ⟨w.heap.size, 5, none⟩ = some (.slice ac nc cc) := by rw [cell_of_row w3 _ 5 _ _ _ bx]; rfl
  have d6 : w3.cell? ⟨w.heap.size, 6, none⟩ = some (.bool h) := by rw [cell_of_row w3 _ 6 _ _ _ bx]; rfl
  have d7 : w3.cell? ⟨w.heap.size, 7, none⟩ = some (.int .u16 pr) := by rw [cell_of_row w3 _ 7 _ _ _ bx]; rfl
  have d8 : w3.cell? ⟨w.heap.size, 8, none⟩ = some (.slice ae ne ce) := by rw [cell_of_row w3 _ 8 _ _ _ bx]; rfl
  have d9 : w3.cell? ⟨w.heap.size, 9, none⟩ = some (.slice ap np cp) := by rw [cell_of_row w3 _ 9 _ _ _ bx]; rfl
  have d10 : w3.cell? ⟨w.heap.size, 10, none⟩ = some (.slice ad nd cd) := by rw [cell_of_row w3 _ 10 _ _ _ bx]; rfl
  clear bx hB3 hO3
  go_wp2_with fail
  refine (HCL.out (by trivial) _ HL.out.low).mono ?_
  rintro e w4 ⟨a1, c1, a2, c2, a3, c3, a4, c4, rfl, hOw, hB4⟩
  have HL := Lib.hid (HL.out.below hB4)
  have HO4 := Lib.hid (HO3.out.below hB4)
  have hpq : PkAt w4 (upd ⟨m, pt, sq, ts, ss, cs, h, pr, ex, py, pd⟩ x y z3) ⟨a1, nc, c1, a2, ne, c2, a3, np, c3, a4, nd, c4⟩ := ⟨hOw.csrc.lin.1, hOw.ext.bat, hOw.pay.bat, hOw.pad.bat, hx, hy, hz, HRG.out⟩
  have HPQ := Lib.hid hpq
  simp only [pkc]
  clear hOw hB4 hpq d0 d1 d2 d3 d4 d5 d6 d7 d8 d9 d10
  go_wp2_with fail
  have hal := (Below.refl w4.heap.size w4).alloc (Nat.le_refl _) (.cells #[.bool m, .int .i64 pt, .int .u16 x, .int .u32 y, .int .u32 z3, .slice a1 nc c1, .bool h, .int .u16 pr, .slice a2 ne c2, .slice a3 np c3, .slice a4 nd c4] 56)
  refine (HWQ.out (by trivial) _ a1 a2 a3 a4 c1 c2 c3 c4 (HPQ.out.below hal)).mono ?_
  rintro e w5 ⟨bw, nb, cb, rfl, hO5, hB5⟩
  have HL := Lib.hid ((HL.out.below hal).below hB5)
  have HO5 := Lib.hid ((HO4.out.below hal).below hB5)
  have HP5 := Lib.hid hO5
  have hne : (wc != wc) = false := by simp
  clear hB5 hal hO5 HPQ HWQ HCL HWR HFEW HO3 HO4
  by_cases h0 : wc = 0
  case neg =>
    obtain ⟨n1, n2⟩ := HNL.out h0
    have l1 := HO5.out.len; have l2 := HP5.out.len
    rw [n1] at l1; rw [n2] at l2
    obtain rfl : 0 = nw := l1
    obtain rfl : 0 = nb := l2
    have hw0 : (wc != 0) = true := by simpa using h0
    clear n1 n2 h0
    go_wp2
    go_ret
    exact ⟨rfl, HL.out.low⟩
  obtain ⟨q1, q2⟩ := HPL.out h0
  have PLC := q2 a1 a2 a3 a4 c1 c2 c3 c4
  subst h0
  obtain ⟨R, hR⟩ : ∃ R, wbytes ⟨m, pt, x, y, z3, cs, h, pr, ex, py, pd⟩ ⟨a1, nc, c1, a2, ne, c2, a3, np, c3, a4, nd, c4⟩ = R := ⟨_, rfl⟩
  rw [hR] at HP5 PLC
  obtain rfl : nw = zz := by rw [← q1]; exact HO5.out.len.symm
  obtain rfl : nb = nw := by rw [← PLC.len]; exact HP5.out.len.symm
  have HPLC := Lib.hid PLC
  have n12 := PLC.n12; have n15 := PLC.n15
  clear q1 q2 hR PLC HNL HPL
  have HSQ : Hid (∀ W, BAt W bw nb R → Calls Try.prog 31 #[.slice bw nb cb] W (ValB (.tuple #[.int .u16 x, .bool true]) W)) := Lib.hid fun W hb => by
    have := seq5_any bw nb cb R W hb HP5.out.cap
    unfold out_Seq at this; rwa [if_pos HPLC.out.code, HPLC.out.seq] at this
  have HSS : Hid (∀ W, BAt W bw nb R → Calls Try.prog 32 #[.slice bw nb cb] W (ValB (.tuple #[.int .u32 z3, .bool true]) W)) := Lib.hid fun W hb => by
    have := ssrc5_any bw nb cb R W hb HP5.out.cap
    unfold out_SSRC at this; rwa [if_pos HPLC.out.code, HPLC.out.ssrc] at this
  have HPT : Hid (∀ W, BAt W bw nb R → Calls Try.prog 33 #[.slice bw nb cb] W (ValB (.tuple #[.int .i64 pt, .bool true]) W)) := Lib.hid fun W hb => by
    have := pt5_any bw nb cb R W hb HP5.out.cap
    unfold out_PT at this; rwa [if_pos HPLC.out.code, HPLC.out.pt] at this
  have hca := HO5.out.cap; have hcb := HP5.out.cap
  have HA := Lib.hid HO5.out.bat; have HR := Lib.hid HP5.out.bat
  clear HO5 HP5
  have hwx : IntKind.u64.wrap x = x := by simp [IntKind.wrap, IntKind.bits, IntKind.signed]; omega
  have hwy : IntKind.u64.wrap y = y := by simp [IntKind.wrap, IntKind.bits, IntKind.signed]; omega
  have hwz : IntKind.u64.wrap z3 = z3 := by simp [IntKind.wrap, IntKind.bits, IntKind.signed]; omega
  go_wp2_with fail
  refine (HSQ.out _ HR.out).mono ?_
  rintro e w6 ⟨rfl, hB⟩
  have HL := Lib.hid (HL.out.below hB); have HA := Lib.hid (HA.out.below hB); have HR := Lib.hid (HR.out.below hB); clear hB
  go_wp2_with fail
  refine (HSS.out _ HR.out).mono ?_
  rintro e w7 ⟨rfl, hB⟩
  have HL := Lib.hid (HL.out.below hB); have HA := Lib.hid (HA.out.below hB); have HR := Lib.hid (HR.out.below hB); clear hB
  go_wp2_with fail
  refine (HPT.out _ HR.out).mono ?_
  rintro e w8 ⟨rfl, hB⟩
  have HL := Lib.hid (HL.out.below hB); have HA := Lib.hid (HA.out.below hB); have HR := Lib.hid (HR.out.below hB); clear hB
  go_wp2_with fail
  refine (rbig_any x 2 w8 hx.1 (by omega) (by decide)).mono ?_
  rintro e w9 ⟨a9, c9, rfl, hO9, hB⟩
  have HL := Lib.hid (HL.out.below hB); have HA := Lib.hid (HA.out.below hB); have HR := Lib.hid (HR.out.below hB); have HG9 := Lib.hid hO9.bat; clear hB hO9
  go_wp2_with fail
  refine (rbig_any y 4 w9 hy.1 (by omega) (by decide)).mono ?_
  rintro e w10 ⟨a10, c10, rfl, hO10, hB⟩
  have HL := Lib.hid (HL.out.below hB); have HA := Lib.hid (HA.out.below hB); have HR := Lib.hid (HR.out.below hB); have HG9 := Lib.hid (HG9.out.below hB); have HG10 := Lib.hid hO10.bat; clear hB hO10
  go_wp2_with fail
  refine (rbig_any z3 4 w10 hz.1 (by omega) (by decide)).mono ?_
  rintro e w11 ⟨a11, c11, rfl, hO11, hB⟩
  have HL := Lib.hid (HL.out.below hB); have HA := Lib.hid (HA.out.below hB); have HR := Lib.hid (HR.out.below hB); have HG9 := Lib.hid (HG9.out.below hB); have HG10 := Lib.hid (HG10.out.below hB); have HG11 := Lib.hid hO11.bat; clear hB hO11
  go_wp2_with fail
  refine (join_any (some ⟨w11.heap.size, 0, none⟩) 3 3 [Big 2 x, Big 4 y, Big 4 z3] _ (rat_three w11 a9 a10 a11 2 4 4 c9 c10 c11 _ _ _ HG9.out HG10.out HG11.out (by decide) (by decide) (by decide)) (by decide) (fun l hl => by simp at hl; rcases hl with rfl | rfl | rfl <;> simp [Big_len]) 10 (by simp [Big_len])).mono ?_
  rintro e w12 ⟨a12, c12, rfl, hO12, hB⟩
  have hal := (Below.refl w11.heap.size w11).alloc (Nat.le_refl _) (.cells #[.slice a9 2 c9, .slice a10 4 c10, .slice a11 4 c11] 22)
  have HL := Lib.hid ((HL.out.below hal).below hB); have HA := Lib.hid ((HA.out.below hal).below hB); have HR := Lib.hid ((HR.out.below hal).below hB)
  have HJ := Lib.hid hO12.bat
  clear hB hO12 hal HG9 HG10 HG11 hwx hwy hwz
  have S1 : Hid (∀ j, Calls Try.prog 24 #[.slice aw 2 cw, .slice bw 2 cb] (w12.drewN j) fun e w' => e = .returned (.bool true) ∧ ∃ m, w' = (w12.drewN j).drewN m) := Lib.hid fun j => by
    have := same_any aw bw 2 2 cw cb _ _ _ ((HA.out.take 2 (by omega)).below (below_drewN w12 _ j)) ((HR.out.take 2 (by omega)).below (below_drewN w12 _ j))
    rw [decide_eq_true HPLC.out.two.symm] at this
    exact this
  have S2 : Hid (∀ j, Calls Try.prog 24 #[.slice (restA aw cw 12) (nb - 12) (cw - 12), .slice (restA bw cb 12) (nb - 12) (cb - 12)] (w12.drewN j) fun e w' => e = .returned (.bool true) ∧ ∃ m, w' = (w12.drewN j).drewN m) := Lib.hid fun j => by
    have := same_any (restA aw cw 12) (restA bw cb 12) (nb - 12) (nb - 12) (cw - 12) (cb - 12) _ _ _ ((restA_bat HA.out hca 12 n12).below (below_drewN w12 _ j)) ((restA_bat HR.out hcb 12 n12).below (below_drewN w12 _ j))
    rw [decide_eq_true HPLC.out.rest.symm] at this
    exact this
  have S3 : Hid (∀ j, Calls Try.prog 24 #[.slice (restA bw cb 2) 10 (cb - 2), .slice a12 10 c12] (w12.drewN j) fun e w' => e = .returned (.bool true) ∧ ∃ m, w' = (w12.drewN j).drewN m) := Lib.hid fun j => by
    have := same_any (restA bw cb 2) a12 10 10 (cb - 2) c12 _ _ _ (((restA_bat HR.out hcb 2 (by omega)).take 10 (by omega)).below (below_drewN w12 _ j)) (HJ.out.below (below_drewN w12 _ j))
    rw [decide_eq_true HPLC.out.mid] at this
    exact this
  have v1 : ∀ W, (Instr.slice 22 (.slice aw nb cw) (some (.int .i64 12)) none none).run Try.prog W = .ok (.slice (restA aw cw 12) (nb - 12) (cw - 12)) W := fun W => run_rest aw nb cw 12 n12 (by omega) W
  have v2 : ∀ W, (Instr.slice 22 (.slice bw nb cb) (some (.int .i64 12)) none none).run Try.prog W = .ok (.slice (restA bw cb 12) (nb - 12) (cb - 12)) W := fun W => run_rest bw nb cb 12 n12 (by omega) W
  have v3 : ∀ W, (Instr.slice 22 (.slice bw nb cb) (some (.int .i64 2)) (some (.int .i64 12)) none).run Try.prog W = .ok (.slice (restA bw cb 2) 10 (cb - 2)) W := fun W => run_mid bw nb cb (by omega) W
  have hmk := HPLC.out.mark
  have hct := HPLC.out.cnt
  have bx := HL.out.box
  simp only [pkc] at bx hmk hct
  have d0 : w12.cell? ⟨w.heap.size, 0, none⟩ = some (.bool m) := by rw [cell_of_row w12 _ 0 _ _ _ bx]; rfl
  have d1 : w12.cell? ⟨w.heap.size, 1, none⟩ = some (.int .i64 pt) := by rw [cell_of_row w12 _ 1 _ _ _ bx]; rfl
  have d2 : w12.cell? ⟨w.heap.size, 2, none⟩ = some (.int .u16 sq) := by rw [cell_of_row w12 _ 2 _ _ _ bx]; rfl
  have d3 : w12.cell? ⟨w.heap.size, 3, none⟩ = some (.int .u32 ts) := by rw [cell_of_row w12 _ 3 _ _ _ bx]; rfl
  have d4 : w12.cell? ⟨w.heap.size, 4, none⟩ = some (.int .u32 ss) := by rw [cell_of_row w12 _ 4 _ _ _ bx]; rfl
  have d5 : w12.cell? ⟨w.heap.size, 5, none⟩ = some (.slice ac nc cc) := by rw [cell_of_row w12 _ 5 _ _ _ bx]; rfl
  have d6 : w12.cell? ⟨w.heap.size, 6, none⟩ = some (.bool h) := by rw [cell_of_row w12 _ 6 _ _ _ bx]; rfl
  have d7 : w12.cell? ⟨w.heap.size, 7, none⟩ = some (.int .u16 pr) := by rw [cell_of_row w12 _ 7 _ _ _ bx]; rfl
  have d8 : w12.cell? ⟨w.heap.size, 8, none⟩ = some (.slice ae ne ce) := by rw [cell_of_row w12 _ 8 _ _ _ bx]; rfl
  have d9 : w12.cell? ⟨w.heap.size, 9, none⟩ = some (.slice ap np cp) := by rw [cell_of_row w12 _ 9 _ _ _ bx]; rfl
  have d10 : w12.cell? ⟨w.heap.size, 10, none⟩ = some (.slice ad nd cd) := by rw [cell_of_row w12 _ 10 _ _ _ bx]; rfl
  obtain ⟨b, o, hr⟩ := HA.out.row
  obtain ⟨rfl, _, g0, _⟩ := hr 0 (by omega)
  obtain ⟨_, _, g1, _⟩ := hr 1 (by omega)
  rw [Nat.add_zero] at g0
  have hcw2 : (2 : Int) ≤ (cw : Int) := by omega
  have hcb2 : (2 : Int) ≤ (cb : Int) := by omega
  have hi0 : (0 : Int) < (nb : Int) := by omega
  have hi1 : (1 : Int) < (nb : Int) := by omega
  have hcn : IntKind.i64.wrap (nc : Int) = (nc : Int) := by
    have : (nc : Int) ≤ 15 := by rw [← hct]; rw [and15_u8 _ (hr 0 (by omega)).2.2.2.1 (hr 0 (by omega)).2.2.2.2]; omega
    rw [IntKind.wrap_i64]; omega
  clear hr bx HSQ HSS HPT HA HR HJ HPLC
  generalize wb.getD 0 0 = l0 at g0 hct
  generalize wb.getD 1 0 = l1 at g1 hmk
  clear hca hcb n12 n15
  go_wp2_with fail
  go_quiet (first | (go_at_call 24; with_reducible exact Calls.quiet_of (S1.out _)) | (go_at_call 24; with_reducible exact Calls.quiet_of (S2.out _)) | (go_at_call 24; with_reducible exact Calls.quiet_of (S3.out _)))
  go_wp2
  go_ret
  exact ⟨by simp, HL.out.low.trans (below_drewN _ _ _)⟩
end Go.Proofs.Ytknpdcnhdmbbiaa

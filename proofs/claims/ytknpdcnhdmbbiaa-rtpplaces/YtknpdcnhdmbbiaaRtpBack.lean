
/-
  RtpBack: the walk.
-/
import Derived.Test.YtknpdcnhdmbbiaaRtpAl
import Derived.Test.YtknpdcnhdmbbiaaRtpPlain2
namespace Go.Proofs.Ytknpdcnhdmbbiaa
open Go.RowKit Go.Shelf
set_option linter.unusedVariables false
def z0 : Pk := ⟨false, 0, 0, 0, 0, [], false, 0, [], [], []⟩
theorem z0_at (W : World) : PkAt W z0 zS := ⟨(LIn.nil W 0).1, BAt.none W, BAt.none W, BAt.none W, by decide, by decide, by decide, by decide⟩
/-- The law's packet in its box. -/
structure Lw (w W : World) (p : Pk) (s : Pl) : Prop where
  box : W.heap[w.heap.size]? = some (.cells (pkc p s) 56 (0, 0))
  low : Below w.heap.size w W
theorem Lw.lt {w W : World} {p : Pk} {s : Pl} (h : Lw w W p s) : w.heap.size < W.heap.size := (Array.getElem?_eq_some_iff.1 h.box).1
theorem Lw.below {w W W' : World} {p : Pk} {s : Pl} (h : Lw w W p s) (hb : Below W.heap.size W W') : Lw w W' p s := ⟨(hb.block _ h.lt).trans h.box, h.low.trans (hb.mono h.low.size)⟩
theorem Lw.start (w : World) (p : Pk) (s : Pl) : Lw w (w.alloc (.cells (pkc p s) 56)) p s := ⟨heap_alloc_new w _, (Below.refl _ w).alloc (Nat.le_refl _) _⟩
theorem few_sm {s : Pl} (h : few s = true) : Sm s := by
  unfold few at h; simp at h
  exact ⟨by omega, by omega, by omega, by omega⟩
theorem Own.cap {W : World} {base : Nat} {a : Option Addr} {n c : Nat} {l : List Int} (h : Own W base a n c l) : n ≤ c := by
  rcases h.row.2 with ⟨hv, h0⟩ | ⟨g, cap, cur, hv, _, _, hnc, _⟩
  · omega
  · simp only [Value.slice.injEq, true_and] at hv; omega
def TrueB (w : World) (e : Ending) (w' : World) : Prop := e = .returned (.bool true) ∧ Below w.heap.size w w'
set_option maxHeartbeats 8000000 in
set_option maxRecDepth 100000 in
theorem walk_RtpBack (p : Pk) (s : Pl) (ab : Option Addr) (nb cb : Nat) (lb : List Int) (w : World) (hp : PkAt w p s) (hb : BAt w ab nb lb) (hcb : nb ≤ cb) :
    Calls Try.prog 7 #[.agg (pkc p s), .slice ab nb cb] w (TrueB w) := by
  have HL0 := Lib.hid (Lw.start w p s)
  have HFEW : Hid (∀ W, Calls Try.prog 21 #[.agg (pkc p s)] W (ValB (.bool (few s)) W)) := Lib.hid fun W => few_any p s W
  have HWR : Hid (few s = true → ∀ W, Below w.heap.size w W → Calls Try.prog 22 #[.agg (pkc p s)] W (WrOut (wcode p s) (wbytes p s) W)) := Lib.hid fun hf W hB => write5_any p s W (hp.below hB) (few_sm hf)
  have HVL : Hid (wcode p s = 0 → Vld p s ∧ wbytes p s = enc p s) := Lib.hid fun h0 => ⟨vld_of hp h0, by unfold wbytes; rw [if_pos h0]⟩
  have HSIZE : Hid (few s = true → ∀ W, Calls Try.prog 25 #[.agg (pkc p s)] W (ValB (.int .i64 (sz p s : Nat)) W)) := Lib.hid fun hf W => size_any p s W (few_sm hf)
  have HP := Lib.hid hp; have HB := Lib.hid hb; clear hp hb
  have HPK2 : Hid (few s = true → ∀ W s2, Below w.heap.size w W → PkAt W p s2 → Sm s2 → Calls Try.prog 27 #[.agg (pkc p s), .agg (pkc p s2)] W (ValB (.bool true) W)) := Lib.hid fun hf W s2 hB h2 hs2 => by
    have := same5_any p p s s2 W (HP.out.below hB) h2 (few_sm hf) hs2
    rwa [pkEq_self] at this
  have HPAR : Hid (wcode p s = 0 → ∀ W a c, BAt W a (sz p s) (enc p s) → sz p s ≤ c → Calls Try.prog 30 #[.slice a (sz p s) c] W (POut 0 p W)) := Lib.hid fun h0 W a c hb hc => by
    have hv := vld_of HP.out h0
    have := parse5_any a (sz p s) c (enc p s) W hb hc
    have e1 : pcodeF (sz p s) (enc p s) = 0 := by
      unfold pcodeF; rw [if_neg (by have := hv.size; omega)]
      have := enc_code hv; rwa [enc_len hv] at this
    rwa [e1, enc_back hv] at this
  have HLEN : Hid (wcode p s = 0 → (enc p s).length = sz p s) := Lib.hid fun h0 => enc_len (vld_of HP.out h0)
  have HSM2 : Hid (few s = true → ∀ W s2, PkIn W w.heap.size p s2 → Sm s2) := Lib.hid fun hf W s2 h2 => by
    obtain ⟨s1, s2', s3, s4⟩ := few_sm hf
    refine ⟨?_, ?_, ?_, ?_⟩
    · rw [← h2.csrc.1.1, HP.out.csrc.1]; exact s1
    · rw [← h2.ext.1.len, HP.out.ext.len]; exact s2'
    · rw [← h2.pay.1.len, HP.out.pay.len]; exact s3
    · rw [← h2.pad.1.len, HP.out.pad.len]; exact s4
  generalize few s = fw at HFEW HWR HSIZE HPK2 HSM2
  generalize wcode p s = wc at HWR HVL HPAR HLEN
  generalize wbytes p s = wb at HWR HVL
  generalize sz p s = z at HSIZE HPAR HLEN
  obtain ⟨m, pt, sq, ts, ss, cs, h, pr, ex, py, pd⟩ := p
  obtain ⟨ac, nc, cc, ae, ne, ce, ap, np, cp, ad, nd, cd⟩ := s
  have hnb : nb ≤ 9223372036854775807 := HB.out.lim
  simp only [pkc] at *
  go_enter Try.func7, Try.ntmps7
  go_wp2_with fail
  refine (alive5 _).mono ?_
  rintro e w1 ⟨rfl, hB1⟩
  have HL := Lib.hid (HL0.out.below hB1)
  have bx := HL.out.box
  simp only [pkc] at bx
  have d0 : w1.cell? ⟨w.heap.size, 0, none⟩ = some (.bool m) := by rw [cell_of_row w1 _ 0 _ _ _ bx]; rfl
  have d1 : w1.cell? ⟨w.heap.size, 1, none⟩ = some (.int .i64 pt) := by rw [cell_of_row w1 _ 1 _ _ _ bx]; rfl
  have d2 : w1.cell? ⟨w.heap.size, 2, none⟩ = some (.int .u16 sq) := by rw [cell_of_row w1 _ 2 _ _ _ bx]; rfl
  have d3 : w1.cell? ⟨w.heap.size, 3, none⟩ = some (.int .u32 ts) := by rw [cell_of_row w1 _ 3 _ _ _ bx]; rfl
  have d4 : w1.cell? ⟨w.heap.size, 4, none⟩ = some (.int .u32 ss) := by rw [cell_of_row w1 _ 4 _ _ _ bx]; rfl
  have d5 : w1.cell? ⟨w.heap.size, 5, none⟩ = some (.slice ac nc cc) := by rw [cell_of_row w1 _ 5 _ _ _ bx]; rfl
  have d6 : w1.cell? ⟨w.heap.size, 6, none⟩ = some (.bool h) := by rw [cell_of_row w1 _ 6 _ _ _ bx]; rfl
  have d7 : w1.cell? ⟨w.heap.size, 7, none⟩ = some (.int .u16 pr) := by rw [cell_of_row w1 _ 7 _ _ _ bx]; rfl
  have d8 : w1.cell? ⟨w.heap.size, 8, none⟩ = some (.slice ae ne ce) := by rw [cell_of_row w1 _ 8 _ _ _ bx]; rfl
  have d9 : w1.cell? ⟨w.heap.size, 9, none⟩ = some (.slice ap np cp) := by rw [cell_of_row w1 _ 9 _ _ _ bx]; rfl
  have d10 : w1.cell? ⟨w.heap.size, 10, none⟩ = some (.slice ad nd cd) := by rw [cell_of_row w1 _ 10 _ _ _ bx]; rfl
  clear bx hB1 HL0
  go_wp2_with fail
  refine (HFEW.out _).mono ?_
  rintro e w2 ⟨rfl, hB2⟩
  have HL := Lib.hid (HL.out.below hB2)
  have bx := HL.out.box
  simp only [pkc] at bx
  clear d0 d1 d2 d3 d4 d5 d6 d7 d8 d9 d10
  have d0 : w2.cell? ⟨w.heap.size, 0, none⟩ = some (.bool m) := by rw [cell_of_row w2 _ 0 _ _ _ bx]; rfl
  have d1 : w2.cell? ⟨w.heap.size, 1, none⟩ = some (.int .i64 pt) := by rw [cell_of_row w2 _ 1 _ _ _ bx]; rfl
  have d2 : w2.cell? ⟨w.heap.size, 2, none⟩ = some (.int .u16 sq) := by rw [cell_of_row w2 _ 2 _ _ _ bx]; rfl
  have d3 : w2.cell? ⟨w.heap.size, 3, none⟩ = some (.int .u32 ts) := by rw [cell_of_row w2 _ 3 _ _ _ bx]; rfl
  have d4 : w2.cell? ⟨w.heap.size, 4, none⟩ = some (.int .u32 ss) := by rw [cell_of_row w2 _ 4 _ _ _ bx]; rfl
  have d5 : w2.cell? ⟨w.heap.size, 5, none⟩ = some (.slice ac nc cc) := by rw [cell_of_row w2 _ 5 _ _ _ bx]; rfl
  have d6 : w2.cell? ⟨w.heap.size, 6, none⟩ = some (.bool h) := by rw [cell_of_row w2 _ 6 _ _ _ bx]; rfl
  have d7 : w2.cell? ⟨w.heap.size, 7, none⟩ = some (.int .u16 pr) := by rw [cell_of_row w2 _ 7 _ _ _ bx]; rfl
  have d8 : w2.cell? ⟨w.heap.size, 8, none⟩ = some (.slice ae ne ce) := by rw [cell_of_row w2 _ 8 _ _ _ bx]; rfl
  have d9 : w2.cell? ⟨w.heap.size, 9, none⟩ = some (.slice ap np cp) := by rw [cell_of_row w2 _ 9 _ _ _ bx]; rfl
  have d10 : w2.cell? ⟨w.heap.size, 10, none⟩ = some (.slice ad nd cd) := by rw [cell_of_row w2 _ 10 _ _ _ bx]; rfl
  clear bx hB2
  cases fw
  · go_wp2
    go_ret
    exact ⟨rfl, HL.out.low⟩
  by_cases hbig : (3000 : Int) < (nb : Int)
  · go_wp2
    go_ret
    exact ⟨rfl, HL.out.low⟩
  go_wp2_with fail
  refine (HWR.out (by trivial) _ HL.out.low).mono ?_
  rintro e w3 ⟨aw, nw, cw, rfl, hO3, hB3⟩
  have HL := Lib.hid (HL.out.below hB3)
  have hz3 := HL.out.low.size
  by_cases h0 : wc = 0
  · obtain ⟨hv, he⟩ := HVL.out h0
    rw [he] at hO3
    have hnz := HLEN.out h0
    obtain rfl : nw = z := by rw [← hnz]; exact hO3.len.symm
    have HPA := Lib.hid (HPAR.out h0 w3 aw cw hO3.bat hO3.cap)
    have hzl : nw ≤ 9223372036854775807 := hO3.bat.lim
    subst h0
    have bx := HL.out.box
    simp only [pkc] at bx
    clear hv he hnz hO3 hB3 HVL HPAR HLEN HWR d0 d1 d2 d3 d4 d5 d6 d7 d8 d9 d10
    go_wp2_with fail
    refine (HPA.out).mono ?_
    intro e w4 hP4
    obtain ⟨⟨ac2, nc2, cc2, ae2, ne2, ce2, ap2, np2, cp2, ad2, nd2, cd2⟩, rfl, hpk, hB4⟩ := hP4.2 rfl
    have HL := Lib.hid (HL.out.below hB4)
    have HL5 := Lib.hid (HL.out.below ((Below.refl _ w4).alloc (Nat.le_refl _) (.cells #[.bool m, .int .i64 pt, .int .u16 sq, .int .u32 ts, .int .u32 ss, .slice ac2 nc2 cc2, .bool h, .int .u16 pr, .slice ae2 ne2 ce2, .slice ap2 np2 cp2, .slice ad2 nd2 cd2] 56)))
    have HSM := Lib.hid (HSM2.out (by trivial) w4 _ (hpk.mono hz3))
    have HSA := Lib.hid (HPK2.out (by trivial) (w4.alloc (.cells #[.bool m, .int .i64 pt, .int .u16 sq, .int .u32 ts, .int .u32 ss, .slice ac2 nc2 cc2, .bool h, .int .u16 pr, .slice ae2 ne2 ce2, .slice ap2 np2 cp2, .slice ad2 nd2 cd2] 56)) ⟨ac2, nc2, cc2, ae2, ne2, ce2, ap2, np2, cp2, ad2, nd2, cd2⟩ HL5.out.low (hpk.at.below ((Below.refl _ w4).alloc (Nat.le_refl _) _)) HSM.out)
    have hz4 : w.heap.size < w4.heap.size := HL.out.lt
    have bx := HL.out.box
    simp only [pkc] at bx HSA HL5 ⊢
    clear hP4 hpk hB4 HPA
    have d0 : w4.cell? ⟨w.heap.size, 0, none⟩ = some (.bool m) := by rw [cell_of_row w4 _ 0 _ _ _ bx]; rfl
    have d1 : w4.cell? ⟨w.heap.size, 1, none⟩ = some (.int .i64 pt) := by rw [cell_of_row w4 _ 1 _ _ _ bx]; rfl
    have d2 : w4.cell? ⟨w.heap.size, 2, none⟩ = some (.int .u16 sq) := by rw [cell_of_row w4 _ 2 _ _ _ bx]; rfl
    have d3 : w4.cell? ⟨w.heap.size, 3, none⟩ = some (.int .u32 ts) := by rw [cell_of_row w4 _ 3 _ _ _ bx]; rfl
    have d4 : w4.cell? ⟨w.heap.size, 4, none⟩ = some (.int .u32 ss) := by rw [cell_of_row w4 _ 4 _ _ _ bx]; rfl
    have d5 : w4.cell? ⟨w.heap.size, 5, none⟩ = some (.slice ac nc cc) := by rw [cell_of_row w4 _ 5 _ _ _ bx]; rfl
    have d6 : w4.cell? ⟨w.heap.size, 6, none⟩ = some (.bool h) := by rw [cell_of_row w4 _ 6 _ _ _ bx]; rfl
    have d7 : w4.cell? ⟨w.heap.size, 7, none⟩ = some (.int .u16 pr) := by rw [cell_of_row w4 _ 7 _ _ _ bx]; rfl
    have d8 : w4.cell? ⟨w.heap.size, 8, none⟩ = some (.slice ae ne ce) := by rw [cell_of_row w4 _ 8 _ _ _ bx]; rfl
    have d9 : w4.cell? ⟨w.heap.size, 9, none⟩ = some (.slice ap np cp) := by rw [cell_of_row w4 _ 9 _ _ _ bx]; rfl
    have d10 : w4.cell? ⟨w.heap.size, 10, none⟩ = some (.slice ad nd cd) := by rw [cell_of_row w4 _ 10 _ _ _ bx]; rfl
    clear bx
    go_wp2_with fail
    refine (HSA.out).mono ?_
    rintro e w6 ⟨rfl, hB6⟩
    have HL := Lib.hid (HL5.out.below hB6)
    have bx := HL.out.box
    simp only [pkc] at bx
    clear hB6 HL5 HSA d0 d1 d2 d3 d4 d5 d6 d7 d8 d9 d10
    have d0 : w6.cell? ⟨w.heap.size, 0, none⟩ = some (.bool m) := by rw [cell_of_row w6 _ 0 _ _ _ bx]; rfl
    have d1 : w6.cell? ⟨w.heap.size, 1, none⟩ = some (.int .i64 pt) := by rw [cell_of_row w6 _ 1 _ _ _ bx]; rfl
    have d2 : w6.cell? ⟨w.heap.size, 2, none⟩ = some (.int .u16 sq) := by rw [cell_of_row w6 _ 2 _ _ _ bx]; rfl
    have d3 : w6.cell? ⟨w.heap.size, 3, none⟩ = some (.int .u32 ts) := by rw [cell_of_row w6 _ 3 _ _ _ bx]; rfl
    have d4 : w6.cell? ⟨w.heap.size, 4, none⟩ = some (.int .u32 ss) := by rw [cell_of_row w6 _ 4 _ _ _ bx]; rfl
    have d5 : w6.cell? ⟨w.heap.size, 5, none⟩ = some (.slice ac nc cc) := by rw [cell_of_row w6 _ 5 _ _ _ bx]; rfl
    have d6 : w6.cell? ⟨w.heap.size, 6, none⟩ = some (.bool h) := by rw [cell_of_row w6 _ 6 _ _ _ bx]; rfl
    have d7 : w6.cell? ⟨w.heap.size, 7, none⟩ = some (.int .u16 pr) := by rw [cell_of_row w6 _ 7 _ _ _ bx]; rfl
    have d8 : w6.cell? ⟨w.heap.size, 8, none⟩ = some (.slice ae ne ce) := by rw [cell_of_row w6 _ 8 _ _ _ bx]; rfl
    have d9 : w6.cell? ⟨w.heap.size, 9, none⟩ = some (.slice ap np cp) := by rw [cell_of_row w6 _ 9 _ _ _ bx]; rfl
    have d10 : w6.cell? ⟨w.heap.size, 10, none⟩ = some (.slice ad nd cd) := by rw [cell_of_row w6 _ 10 _ _ _ bx]; rfl
    clear bx
    go_wp2_with fail
    refine (HSIZE.out (by trivial) _).mono ?_
    rintro e w7 ⟨rfl, hB7⟩
    have HL := Lib.hid (HL.out.below hB7)
    have hne : ((nw : Int) != (nw : Int)) = false := by simp
    clear hB7 d0 d1 d2 d3 d4 d5 d6 d7 d8 d9 d10
    go_wp2_with fail
    have HBB := Lib.hid (HB.out.below HL.out.low)
    refine (parse5_any ab nb cb lb w7 HBB.out hcb).mono ?_
    intro e w8 hP
    by_cases hf : pcodeF nb lb = 0
    · obtain ⟨⟨ac3, nc3, cc3, ae3, ne3, ce3, ap3, np3, cp3, ad3, nd3, cd3⟩, rfl, hpk, hB8⟩ := hP.2 hf
      have hpc : pcode nb lb = 0 ∧ nb ≤ 1500 := by
        unfold pcodeF at hf
        split at hf
        · cases hf
        · exact ⟨hf, by omega⟩
      have hle := HBB.out.len
      have hpc1 := hpc.1
      rw [← hle] at hpc1
      obtain ⟨_, _, _, _, p2, p3⟩ := pcode_zero hpc1
      have hpsd := psd_of hpk.at p2
      have hwc := psd_wcode hpsd HBB.out.ok (by omega) p2 p3
      have hwb := psd_enc hpsd HBB.out.ok hpc1
      have hs3 := psd_sz hpsd HBB.out.ok p2 p3
      have hsm3 : Sm ⟨ac3, nc3, cc3, ae3, ne3, ce3, ap3, np3, cp3, ad3, nd3, cd3⟩ := by
        have hx := hpk.ext.1.len
        unfold sz at hs3
        have hx2 : (pexts lb).length ≤ lb.length := by unfold pexts; split <;> simp <;> omega
        have hx3 : (ppk lb).ext.length ≤ lb.length := hx2
        simp only at hs3 hx
        exact ⟨by show nc3 ≤ _; omega, by show ne3 ≤ _; omega, by show np3 ≤ _; omega, by show nd3 ≤ _; omega⟩
      have hww : wbytes (ppk lb) ⟨ac3, nc3, cc3, ae3, ne3, ce3, ap3, np3, cp3, ad3, nd3, cd3⟩ = lb := by unfold wbytes; rw [if_pos hwc]; exact hwb
      have HWR : Hid (∀ W, PkAt W (ppk lb) ⟨ac3, nc3, cc3, ae3, ne3, ce3, ap3, np3, cp3, ad3, nd3, cd3⟩ → Calls Try.prog 22 #[.agg (pkc (ppk lb) ⟨ac3, nc3, cc3, ae3, ne3, ce3, ap3, np3, cp3, ad3, nd3, cd3⟩)] W (WrOut 0 lb W)) := Lib.hid fun W hW => by
        have := write5_any _ _ W hW hsm3
        rwa [hwc, hww] at this
      have HPK := Lib.hid hpk.at; have HB8 := Lib.hid (HL.out.low.trans (hB8.mono HL.out.low.size))
      have HB9 := Lib.hid (HBB.out.below hB8)
      clear hP hpk hB8 hpc hle hpc1 p2 p3 hpsd hwc hwb hs3 hsm3 hww HBB HL hf
      generalize ppk lb = q at HWR HPK
      obtain ⟨m3, pt3, sq3, ts3, ss3, cs3, h3, pr3, ex3, py3, pd3⟩ := q
      simp only [pkc] at *
      go_wp2_with fail
      refine (HWR.out _ (HPK.out.below ((Below.refl _ w8).alloc (Nat.le_refl _) _))).mono ?_
      rintro e w9 ⟨aw, nw, cw, rfl, hO9, hB9⟩
      have HB10 := Lib.hid (HB9.out.below (((Below.refl _ w8).alloc (Nat.le_refl _) _).trans (hB9.mono (by simp))))
      have HO9 := Lib.hid hO9.bat
      have HL9 := Lib.hid (show Below w.heap.size w w9 from (HB8.out.alloc HB8.out.size _).trans (hB9.mono (by have := HB8.out.size; simp; omega)))
      clear hO9 hB9 HWR HPK HB8 HB9
      go_wp2_with fail
      refine (same_any aw ab nw nb cw cb lb lb w9 HO9.out HB10.out).mono ?_
      rintro e w10 ⟨rfl, j, rfl⟩
      go_wp2
      go_ret
      exact ⟨by simp, HL9.out.trans (below_drewN _ _ _)⟩
    · obtain ⟨rfl, hB8⟩ := hP.1 hf
      have hf0 : (pcodeF nb lb != 0) = true := by simpa using hf
      have HSZ := Lib.hid (fun W => same5_any z0 z0 zS zS W (z0_at W) (z0_at W) ⟨by decide, by decide, by decide, by decide⟩ ⟨by decide, by decide, by decide, by decide⟩)
      have HB8 := Lib.hid (HL.out.low.trans (hB8.mono HL.out.low.size))
      clear hP hB8 HL HBB hf
      generalize pcodeF nb lb = f at hf0
      go_wp2_with fail
      refine (HSZ.out _).mono ?_
      rintro e w9 ⟨rfl, hB9⟩
      have HB9 := Lib.hid hB9; clear hB9
      rw [pkEq_self]
      go_wp2
      go_ret
      exact ⟨rfl, (HB8.out.alloc HB8.out.size _).trans (HB9.out.mono (by have := HB8.out.size; simp; omega))⟩
  · have hw0 : (wc == 0) = false := by simpa using h0
    clear hO3 hB3 HVL HPAR HLEN HWR d0 d1 d2 d3 d4 d5 d6 d7 d8 d9 d10 h0
    go_wp2_with fail
    have HBB := Lib.hid (HB.out.below HL.out.low)
    refine (parse5_any ab nb cb lb w3 HBB.out hcb).mono ?_
    intro e w8 hP
    by_cases hf : pcodeF nb lb = 0
    · obtain ⟨⟨ac3, nc3, cc3, ae3, ne3, ce3, ap3, np3, cp3, ad3, nd3, cd3⟩, rfl, hpk, hB8⟩ := hP.2 hf
      have hpc : pcode nb lb = 0 ∧ nb ≤ 1500 := by
        unfold pcodeF at hf
        split at hf
        · cases hf
        · exact ⟨hf, by omega⟩
      have hle := HBB.out.len
      have hpc1 := hpc.1
      rw [← hle] at hpc1
      obtain ⟨_, _, _, _, p2, p3⟩ := pcode_zero hpc1
      have hpsd := psd_of hpk.at p2
      have hwc := psd_wcode hpsd HBB.out.ok (by omega) p2 p3
      have hwb := psd_enc hpsd HBB.out.ok hpc1
      have hs3 := psd_sz hpsd HBB.out.ok p2 p3
      have hsm3 : Sm ⟨ac3, nc3, cc3, ae3, ne3, ce3, ap3, np3, cp3, ad3, nd3, cd3⟩ := by
        have hx := hpk.ext.1.len
        unfold sz at hs3
        have hx2 : (pexts lb).length ≤ lb.length := by unfold pexts; split <;> simp <;> omega
        have hx3 : (ppk lb).ext.length ≤ lb.length := hx2
        simp only at hs3 hx
        exact ⟨by show nc3 ≤ _; omega, by show ne3 ≤ _; omega, by show np3 ≤ _; omega, by show nd3 ≤ _; omega⟩
      have hww : wbytes (ppk lb) ⟨ac3, nc3, cc3, ae3, ne3, ce3, ap3, np3, cp3, ad3, nd3, cd3⟩ = lb := by unfold wbytes; rw [if_pos hwc]; exact hwb
      have HWR : Hid (∀ W, PkAt W (ppk lb) ⟨ac3, nc3, cc3, ae3, ne3, ce3, ap3, np3, cp3, ad3, nd3, cd3⟩ → Calls Try.prog 22 #[.agg (pkc (ppk lb) ⟨ac3, nc3, cc3, ae3, ne3, ce3, ap3, np3, cp3, ad3, nd3, cd3⟩)] W (WrOut 0 lb W)) := Lib.hid fun W hW => by
        have := write5_any _ _ W hW hsm3
        rwa [hwc, hww] at this
      have HPK := Lib.hid hpk.at; have HB8 := Lib.hid (HL.out.low.trans (hB8.mono HL.out.low.size))
      have HB9 := Lib.hid (HBB.out.below hB8)
      clear hP hpk hB8 hpc hle hpc1 p2 p3 hpsd hwc hwb hs3 hsm3 hww HBB HL hf
      generalize ppk lb = q at HWR HPK
      obtain ⟨m3, pt3, sq3, ts3, ss3, cs3, h3, pr3, ex3, py3, pd3⟩ := q
      simp only [pkc] at *
      go_wp2_with fail
      refine (HWR.out _ (HPK.out.below ((Below.refl _ w8).alloc (Nat.le_refl _) _))).mono ?_
      rintro e w9 ⟨aw, nw, cw, rfl, hO9, hB9⟩
      have HB10 := Lib.hid (HB9.out.below (((Below.refl _ w8).alloc (Nat.le_refl _) _).trans (hB9.mono (by simp))))
      have HO9 := Lib.hid hO9.bat
      have HL9 := Lib.hid (show Below w.heap.size w w9 from (HB8.out.alloc HB8.out.size _).trans (hB9.mono (by have := HB8.out.size; simp; omega)))
      clear hO9 hB9 HWR HPK HB8 HB9
      go_wp2_with fail
      refine (same_any aw ab nw nb cw cb lb lb w9 HO9.out HB10.out).mono ?_
      rintro e w10 ⟨rfl, j, rfl⟩
      go_wp2
      go_ret
      exact ⟨by simp, HL9.out.trans (below_drewN _ _ _)⟩
    · obtain ⟨rfl, hB8⟩ := hP.1 hf
      have hf0 : (pcodeF nb lb != 0) = true := by simpa using hf
      have HSZ := Lib.hid (fun W => same5_any z0 z0 zS zS W (z0_at W) (z0_at W) ⟨by decide, by decide, by decide, by decide⟩ ⟨by decide, by decide, by decide, by decide⟩)
      have HB8 := Lib.hid (HL.out.low.trans (hB8.mono HL.out.low.size))
      clear hP hB8 HL HBB hf
      generalize pcodeF nb lb = f at hf0
      go_wp2_with fail
      refine (HSZ.out _).mono ?_
      rintro e w9 ⟨rfl, hB9⟩
      have HB9 := Lib.hid hB9; clear hB9
      rw [pkEq_self]
      go_wp2
      go_ret
      exact ⟨rfl, (HB8.out.alloc HB8.out.size _).trans (HB9.out.mono (by have := HB8.out.size; simp; omega))⟩
end Go.Proofs.Ytknpdcnhdmbbiaa

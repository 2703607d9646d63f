
/-
  RedChains: the walk.
-/
import Derived.Test.YtpannhbmelcpfaaRedAl
import Derived.Test.YtpannhbmelcpfaaRedSmall
namespace Go.Proofs.Ytpannhbmelcpfaa
open Go.RowKit Go.Shelf
set_option linter.unusedVariables false
theorem few_sm6 {s : Pl} (h : few s = true) : Sm s := by
  unfold few at h; simp at h
  exact ⟨by omega, by omega, by omega, by omega⟩
structure Bx6 (w W : World) (cs : List Value) : Prop where
  box : W.heap[w.heap.size]? = some (.cells cs.toArray 27 (0, 0))
  low : Below w.heap.size w W
theorem Bx6.lt {w W : World} {cs : List Value} (h : Bx6 w W cs) : w.heap.size < W.heap.size := (Array.getElem?_eq_some_iff.1 h.box).1
theorem Bx6.below {w W W' : World} {cs : List Value} (h : Bx6 w W cs) (hb : Below W.heap.size W W') : Bx6 w W' cs := ⟨(hb.block _ h.lt).trans h.box, h.low.trans (hb.mono h.low.size)⟩
theorem grown_set6 (w : World) (b o : Nat) (v : Value) : w.grownBy (w.setCell ⟨b, o, none⟩ v) (some b) :=
  ⟨rfl, rfl, rfl, by simp [World.setCell], fun k hk hr => Below.heap_setCell w _ v k (fun e => hr (by rw [e]))⟩
/-- The older packets in memory. -/
def OsAt (W : World) (oo : Option Addr) (k : Nat) (pt of : Nat → Int) (T ss : Int) (OA : Nat → Option Addr) (OC : Nat → Nat) (ds : Nat → List Int) : Prop :=
  ∃ g, ∀ i, i < k → oo = some ⟨g, 0, none⟩ ∧ g < W.heap.size ∧ (∀ j, j < 11 → W.cell? ⟨g, i * 11 + j, none⟩ = (oc1 (pt i) (Ser.add32 T (-(of i))) ss (OA i) (ds i).length (OC i))[j]?) ∧ BAt W (OA i) (ds i).length (ds i) ∧ (ds i).length ≤ OC i
theorem OsAt.below {W W' : World} {oo : Option Addr} {k : Nat} {pt of : Nat → Int} {T ss : Int} {OA : Nat → Option Addr} {OC : Nat → Nat} {ds : Nat → List Int} (h : OsAt W oo k pt of T ss OA OC ds) (hb : Below W.heap.size W W') : OsAt W' oo k pt of T ss OA OC ds := by
  obtain ⟨g, hr⟩ := h
  refine ⟨g, fun i hi => ?_⟩
  obtain ⟨h1, h2, h3, h4, h5⟩ := hr i hi
  exact ⟨h1, by have := hb.size; omega, fun j hj => (hb.cell (p := ⟨g, i * 11 + j, none⟩) h2).trans (h3 j hj), h4.below hb, h5⟩
theorem os_at {W : World} {base : Nat} {oo : Option Addr} {oc k : Nat} {R : List Int} {pt of : Nat → Int} {T ss : Int} {OA : Nat → Option Addr} {OC : Nat → Nat} {ds : Nat → List Int} (h : W.ownsRow base 27 11 (.slice oo k oc) k (ocells (ppt R) (pof R) T ss OA OC (pdat R k) k))
    (hd : ∀ j, j < k → BAt W (OA j) (pdat R k j).length (pdat R k j) ∧ (pdat R k j).length ≤ OC j) (hR : ∀ i, i ≤ k → ppt R i = pt i ∧ pof R i = of i ∧ pdat R k i = ds i) : OsAt W oo k pt of T ss OA OC ds ∧ k ≤ oc := by
  rcases h.2 with ⟨hv, e0⟩ | ⟨g, cap, cur, hv, hb, hg, h1, h2, h3, h4⟩
  · exact ⟨⟨0, fun i hi => by omega⟩, by omega⟩
  · simp only [Value.slice.injEq, true_and] at hv
    obtain ⟨rfl, rfl⟩ := hv
    have hc : ∀ j u, (ocells (ppt R) (pof R) T ss OA OC (pdat R k) k)[j]? = some u → W.cell? ⟨g, j, none⟩ = some u := fun j u hu => by
      have := h.cells (g := g) rfl j u hu
      rwa [show (Addr.add ⟨g, 0, none⟩ j) = ⟨g, j, none⟩ from by unfold Addr.add; split <;> simp_all] at this
    refine ⟨⟨g, fun i hi => ?_⟩, h1⟩
    obtain ⟨ua, ub, uc⟩ := hR i (by omega)
    have hdi := hd i hi
    rw [uc] at hdi
    refine ⟨rfl, (Array.getElem?_eq_some_iff.1 hg).1, fun j hj => ?_, hdi.1, hdi.2⟩
    have := ocells_at (ppt R) (pof R) T ss OA OC (pdat R k) k i j hi hj
    rw [ua, ub, uc] at this
    rw [← this]
    have hjl : j < (oc1 (pt i) (Ser.add32 T (-(of i))) ss (OA i) (ds i).length (OC i)).length := by simpa [oc1] using hj
    obtain ⟨u, hu⟩ : ∃ u, (oc1 (pt i) (Ser.add32 T (-(of i))) ss (OA i) (ds i).length (OC i))[j]? = some u := ⟨_, List.getElem?_eq_getElem hjl⟩
    rw [hu] at this
    rw [this]; exact hc _ _ this
def True6 (w : World) (e : Ending) (w' : World) : Prop := e = .returned (.bool true) ∧ Below w.heap.size w w'
set_option maxHeartbeats 4000000 in
set_option maxRecDepth 100000 in
theorem walk_RedChains (a : Option Addr) (n c : Nat) (pt of : Nat → Int) (A : Nat → Option Addr) (C : Nat → Nat) (ds : Nat → List Int) (p : Pk) (s : Pl) (w : World) (hb : BkAt w a n pt of A C ds) (hn : n ≤ c) (hn2 : n ≤ 9223372036854775807) (hd : ∀ i, i < n → (ds i).length ≤ 9223372036854775807) (hp : PkAt w p s) :
    Calls Try.prog 6 #[.slice a n c, .agg (pkc p s)] w (True6 w) := by
  have HH := Lib.hid hb; have HP := Lib.hid hp
  have HL0 : Hid (Bx6 w (w.alloc (.cells (pkc p s) 27)) (pkc p s).toList) := Lib.hid ⟨by simpa using heap_alloc_new w _, (Below.refl _ w).alloc (Nat.le_refl _) _⟩
  have HFEW : Hid (∀ W, Calls Try.prog 9 #[.agg (pkc p s)] W (ValB (.bool (few s)) W)) := Lib.hid fun W => few_any p s W
  have HSM : Hid (∀ W, Below w.heap.size w W → Calls Try.prog 19 #[.slice a n c] W (ValB (.bool (rsmall n ds)) W)) := Lib.hid fun W hB => small6 a n c pt of A C ds W (HH.out.below hB) hn2 hd
  have HWR : Hid (rsmall n ds = true → ∀ W, Below w.heap.size w W → Calls Try.prog 20 #[.slice a n c] W (WrOut (rwcode n pt of ds) (rwbytes n pt of ds) W)) := Lib.hid fun hf W hB => by
    have h2 := rsmall_ok hf
    exact redw_any a n c pt of A C ds W (HH.out.below hB) (by omega) hn (fun i hi => by have := h2.2 i hi; omega)
  clear hb hp hd
  obtain ⟨m, pp, sq, ts, ss, cs, h, pr, ex, py, pd⟩ := p
  obtain ⟨ac, nc, cc, ae, ne, ce, ap, np, cp, ad, nd, cd⟩ := s
  simp only [pkc] at HFEW HL0 ⊢
  go_enter Try.func6, Try.ntmps6
  go_wp2_with fail
  refine (alive6 _).mono ?_
  rintro e w1 ⟨rfl, hB1⟩
  have HL := Lib.hid (HL0.out.below hB1)
  clear HL0 hB1
  go_wp2_with fail
  refine (HSM.out _ HL.out.low).mono ?_
  rintro e w2 ⟨rfl, hB2⟩
  have HL2 := Lib.hid (HL.out.below hB2)
  clear hB2 HL
  generalize hrs : rsmall n ds = rs at *
  cases rs
  · go_wp2
    go_ret
    exact ⟨rfl, HL2.out.low⟩
  have bx := HL2.out.box
  have d0 : w2.cell? ⟨w.heap.size, 0, none⟩ = some (.bool m) := by rw [cell_of_row w2 _ 0 _ _ _ bx]; rfl
  have d1 : w2.cell? ⟨w.heap.size, 1, none⟩ = some (.int .i64 pp) := by rw [cell_of_row w2 _ 1 _ _ _ bx]; rfl
  have d2 : w2.cell? ⟨w.heap.size, 2, none⟩ = some (.int .u16 sq) := by rw [cell_of_row w2 _ 2 _ _ _ bx]; rfl
  have d3 : w2.cell? ⟨w.heap.size, 3, none⟩ = some (.int .u32 ts) := by rw [cell_of_row w2 _ 3 _ _ _ bx]; rfl
  have d4 : w2.cell? ⟨w.heap.size, 4, none⟩ = some (.int .u32 ss) := by rw [cell_of_row w2 _ 4 _ _ _ bx]; rfl
  have d5 : w2.cell? ⟨w.heap.size, 5, none⟩ = some (.slice ac nc cc) := by rw [cell_of_row w2 _ 5 _ _ _ bx]; rfl
  have d6 : w2.cell? ⟨w.heap.size, 6, none⟩ = some (.bool h) := by rw [cell_of_row w2 _ 6 _ _ _ bx]; rfl
  have d7 : w2.cell? ⟨w.heap.size, 7, none⟩ = some (.int .u16 pr) := by rw [cell_of_row w2 _ 7 _ _ _ bx]; rfl
  have d8 : w2.cell? ⟨w.heap.size, 8, none⟩ = some (.slice ae ne ce) := by rw [cell_of_row w2 _ 8 _ _ _ bx]; rfl
  have d9 : w2.cell? ⟨w.heap.size, 9, none⟩ = some (.slice ap np cp) := by rw [cell_of_row w2 _ 9 _ _ _ bx]; rfl
  have d10 : w2.cell? ⟨w.heap.size, 10, none⟩ = some (.slice ad nd cd) := by rw [cell_of_row w2 _ 10 _ _ _ bx]; rfl
  clear bx
  go_wp2_with fail
  refine (HFEW.out _).mono ?_
  rintro e w3 ⟨rfl, hB3⟩
  have HL3 := Lib.hid (HL2.out.below hB3)
  clear hB3 HL2 d0 d1 d2 d3 d4 d5 d6 d7 d8 d9 d10
  generalize hfw : few _ = fw at *
  cases fw
  · go_wp2
    go_ret
    exact ⟨rfl, HL3.out.low⟩
  go_wp2_with fail
  refine (HWR.out (by first | rfl | trivial) _ HL3.out.low).mono ?_
  rintro e w4 ⟨aw, nw, cw, rfl, hO4, hB4⟩
  have HL4 := Lib.hid (HL3.out.below hB4)
  have HO4 := Lib.hid hO4
  have HL3lt := HL3.out.lt
  clear hB4 hO4 HL3
  by_cases h0 : rwcode n pt of ds = 0
  case neg =>
    have l1 := HO4.out.bat.len
    rw [show rwbytes n pt of ds = [] from by unfold rwbytes; rw [if_neg h0]] at l1
    obtain rfl : 0 = nw := l1
    have hne : (rwcode n pt of ds != 0) = true := by simpa using h0
    generalize rwcode n pt of ds = rc at *
    clear h0
    go_wp2
    go_ret
    exact ⟨rfl, HL4.out.low⟩
  have HOK : ∀ i, i < n → Str.Ok (ds i) := fun i hi => by obtain ⟨b, o, hr⟩ := HH.out; exact (hr i hi).2.2.2.2.2.1.ok
  obtain ⟨k, rfl, HV⟩ := rwcode_vld h0 HOK
  have hwb : rwbytes (k + 1) pt of ds = renc pt of ds k := by unfold rwbytes; rw [if_pos h0]; rfl
  rw [h0]
  rw [hwb] at HO4
  have hGd := renc_good HV
  have hRl := renc_len HV
  have hppt : ∀ i, i ≤ k → ppt (renc pt of ds k) i = pt i := fun i hi => renc_ppt HV hi
  have hpof : ∀ i, i ≤ k → pof (renc pt of ds k) i = of i := fun i hi => renc_pof HV hi
  have hpdt : ∀ i, i ≤ k → pdat (renc pt of ds k) k i = ds i := fun i hi => renc_pdat HV hi
  generalize renc pt of ds k = R at *
  have hnw := HO4.out.bat.len
  have hnw2 : nw ≤ 1500 := by have := HV.tot; omega
  have hsm := few_sm6 hfw
  obtain ⟨w5, hw5⟩ : ∃ w5, w4.setCell ⟨w.heap.size, 9, none⟩ (.slice aw nw cw) = w5 := ⟨_, rfl⟩
  have hg5 : w4.grownBy w5 (some w.heap.size) := by rw [← hw5]; exact grown_set6 _ _ _ _
  have hB35 : Below w.heap.size w w5 := by rw [← hw5]; exact HL4.out.low.setCell (Nat.le_refl _) _
  have HL5 : Hid (Bx6 w w5 [.bool m, .int .i64 pp, .int .u16 sq, .int .u32 ts, .int .u32 ss, .slice ac nc cc, .bool h, .int .u16 pr, .slice ae ne ce, .slice aw nw cw, .slice ad nd cd]) := Lib.hid ⟨by rw [← hw5]; exact heap_setCell_same w4 w.heap.size 9 _ _ _ HL4.out.box, hB35⟩
  have HO5 := Lib.hid (HO4.out.off hg5 HL3lt)
  have hp5 : PkAt w5 ⟨m, pp, sq, ts, ss, cs, h, pr, ex, R, pd⟩ ⟨ac, nc, cc, ae, ne, ce, aw, nw, cw, ad, nd, cd⟩ := by
    have := HP.out.below hB35
    exact ⟨this.csrc, this.ext, HO5.out.bat, this.pad, this.seq, this.ts, this.ssrc, this.prof⟩
  have HPR : Hid (∀ W, Below w5.heap.size w5 W → Calls Try.prog 25 #[.agg #[.bool m, .int .i64 pp, .int .u16 sq, .int .u32 ts, .int .u32 ss, .slice ac nc cc, .bool h, .int .u16 pr, .slice ae ne ce, .slice aw nw cw, .slice ad nd cd]] W (PrOut ⟨m, pt k, sq, ts, ss, cs, h, pr, ex, ds k, pd⟩ 0 W)) := Lib.hid fun W hB => by
    have := primary_ok ⟨m, pp, sq, ts, ss, cs, h, pr, ex, R, pd⟩ ⟨ac, nc, cc, ae, ne, ce, aw, nw, cw, ad, nd, cd⟩ k W (hp5.below hB) ⟨hsm.1, hsm.2.1, by show nw ≤ 100000; omega, hsm.2.2.2⟩ HO4.out.cap6 hGd
    simp only [hppt k (Nat.le_refl _), hpdt k (Nat.le_refl _)] at this
    exact this
  have HOL : Hid (∀ W, Below w5.heap.size w5 W → Calls Try.prog 26 #[.agg #[.bool m, .int .i64 pp, .int .u16 sq, .int .u32 ts, .int .u32 ss, .slice ac nc cc, .bool h, .int .u16 pr, .slice ae ne ce, .slice aw nw cw, .slice ad nd cd]] W (OlOut k R ts ss W)) := Lib.hid fun W hB =>
    older_ok ⟨m, pp, sq, ts, ss, cs, h, pr, ex, R, pd⟩ ⟨ac, nc, cc, ae, ne, ce, aw, nw, cw, ad, nd, cd⟩ k W (hp5.below hB) ⟨hsm.1, hsm.2.1, by show nw ≤ 100000; omega, hsm.2.2.2⟩ HO4.out.cap6 hGd (fun i hi => by
      show 0 ≤ pof R i ∧ pof R i ≤ 16383
      rw [hpof i hi]; exact HV.ofs i hi)
  have HRS : Hid (∀ i, i ≤ k → ppt R i = pt i ∧ pof R i = of i ∧ pdat R k i = ds i) := Lib.hid fun i hi => ⟨hppt i hi, hpof i hi, hpdt i hi⟩
  have HTS := Lib.hid (show 0 ≤ ts ∧ ts < 4294967296 from HP.out.ts)
  have HW5 := Lib.hid hw5
  have HVD := Lib.hid HV
  have HB5 := Lib.hid hB35
  clear hppt hpof hpdt hGd hRl hnw hnw2 hsm hp5 hg5 hw5 HO4 HO5 hwb HOK HP HWR HFEW HSM hrs hfw h0 HV hB35
  have bx4 := HL4.out.box
  have e9 : w4.cell? ⟨w.heap.size, 9, none⟩ = some (.slice ap np cp) := by rw [cell_of_row w4 _ 9 _ _ _ bx4]; rfl
  have f9 := frozen_of_row w4 _ 9 _ _ bx4
  clear bx4 HL4
  go_upto_region 9 with (fail)
  rw [HW5.out]
  have bx := HL5.out.box
  have d0 : w5.cell? ⟨w.heap.size, 0, none⟩ = some (.bool m) := by rw [cell_of_row w5 _ 0 _ _ _ bx]; rfl
  have d1 : w5.cell? ⟨w.heap.size, 1, none⟩ = some (.int .i64 pp) := by rw [cell_of_row w5 _ 1 _ _ _ bx]; rfl
  have d2 : w5.cell? ⟨w.heap.size, 2, none⟩ = some (.int .u16 sq) := by rw [cell_of_row w5 _ 2 _ _ _ bx]; rfl
  have d3 : w5.cell? ⟨w.heap.size, 3, none⟩ = some (.int .u32 ts) := by rw [cell_of_row w5 _ 3 _ _ _ bx]; rfl
  have d4 : w5.cell? ⟨w.heap.size, 4, none⟩ = some (.int .u32 ss) := by rw [cell_of_row w5 _ 4 _ _ _ bx]; rfl
  have d5 : w5.cell? ⟨w.heap.size, 5, none⟩ = some (.slice ac nc cc) := by rw [cell_of_row w5 _ 5 _ _ _ bx]; rfl
  have d6 : w5.cell? ⟨w.heap.size, 6, none⟩ = some (.bool h) := by rw [cell_of_row w5 _ 6 _ _ _ bx]; rfl
  have d7 : w5.cell? ⟨w.heap.size, 7, none⟩ = some (.int .u16 pr) := by rw [cell_of_row w5 _ 7 _ _ _ bx]; rfl
  have d8 : w5.cell? ⟨w.heap.size, 8, none⟩ = some (.slice ae ne ce) := by rw [cell_of_row w5 _ 8 _ _ _ bx]; rfl
  have d9 : w5.cell? ⟨w.heap.size, 9, none⟩ = some (.slice aw nw cw) := by rw [cell_of_row w5 _ 9 _ _ _ bx]; rfl
  have d10 : w5.cell? ⟨w.heap.size, 10, none⟩ = some (.slice ad nd cd) := by rw [cell_of_row w5 _ 10 _ _ _ bx]; rfl
  clear bx
  go_wp2_with fail
  refine (HPR.out _ (Below.refl _ _)).mono ?_
  rintro e w6 ⟨⟨qa1, qn1, qc1, qa2, qn2, qc2, qa3, qn3, qc3, qa4, qn4, qc4⟩, rfl, hOq, B56, hSq⟩
  obtain rfl : (ds k).length = qn3 := hOq.pay.bat.len
  simp only [pkc]
  have HQ6 := Lib.hid hOq.pay.bat
  obtain ⟨w7, hw7⟩ : ∃ w7, w6.alloc (.cells #[.bool m, .int .i64 (pt k), .int .u16 sq, .int .u32 ts, .int .u32 ss, .slice qa1 qn1 qc1, .bool h, .int .u16 pr, .slice qa2 qn2 qc2, .slice qa3 (ds k).length qc3, .slice qa4 qn4 qc4] 27) = w7 := ⟨_, rfl⟩
  have B67 : Below w6.heap.size w6 w7 := by rw [← hw7]; exact bel_alloc w6 _
  have hq7 : w7.heap[w6.heap.size]? = some (.cells #[.bool m, .int .i64 (pt k), .int .u16 sq, .int .u32 ts, .int .u32 ss, .slice qa1 qn1 qc1, .bool h, .int .u16 pr, .slice qa2 qn2 qc2, .slice qa3 (ds k).length qc3, .slice qa4 qn4 qc4] 27 (0, 0)) := by rw [← hw7]; exact lit_new rfl
  have B57 := bel_trans B56 B67
  have HL7 := Lib.hid (HL5.out.below B57)
  have HQ7 := Lib.hid (HQ6.out.below B67)
  have HOL7 := Lib.hid (HOL.out _ B57)
  have HW7 := Lib.hid hw7
  have HQB7 := Lib.hid hq7
  have HB57 := Lib.hid B57
  clear hw7 hq7 hOq hSq B56 HQ6 HL5 HPR HOL HW5 B67 B57 e9 f9 d0 d1 d2 d3 d4 d5 d6 d7 d8 d9 d10
  go_upto_region 10 with (fail)
  rw [HW7.out]
  have bx := HL7.out.box
  have d0 : w7.cell? ⟨w.heap.size, 0, none⟩ = some (.bool m) := by rw [cell_of_row w7 _ 0 _ _ _ bx]; rfl
  have d1 : w7.cell? ⟨w.heap.size, 1, none⟩ = some (.int .i64 pp) := by rw [cell_of_row w7 _ 1 _ _ _ bx]; rfl
  have d2 : w7.cell? ⟨w.heap.size, 2, none⟩ = some (.int .u16 sq) := by rw [cell_of_row w7 _ 2 _ _ _ bx]; rfl
  have d3 : w7.cell? ⟨w.heap.size, 3, none⟩ = some (.int .u32 ts) := by rw [cell_of_row w7 _ 3 _ _ _ bx]; rfl
  have d4 : w7.cell? ⟨w.heap.size, 4, none⟩ = some (.int .u32 ss) := by rw [cell_of_row w7 _ 4 _ _ _ bx]; rfl
  have d5 : w7.cell? ⟨w.heap.size, 5, none⟩ = some (.slice ac nc cc) := by rw [cell_of_row w7 _ 5 _ _ _ bx]; rfl
  have d6 : w7.cell? ⟨w.heap.size, 6, none⟩ = some (.bool h) := by rw [cell_of_row w7 _ 6 _ _ _ bx]; rfl
  have d7 : w7.cell? ⟨w.heap.size, 7, none⟩ = some (.int .u16 pr) := by rw [cell_of_row w7 _ 7 _ _ _ bx]; rfl
  have d8 : w7.cell? ⟨w.heap.size, 8, none⟩ = some (.slice ae ne ce) := by rw [cell_of_row w7 _ 8 _ _ _ bx]; rfl
  have d9 : w7.cell? ⟨w.heap.size, 9, none⟩ = some (.slice aw nw cw) := by rw [cell_of_row w7 _ 9 _ _ _ bx]; rfl
  have d10 : w7.cell? ⟨w.heap.size, 10, none⟩ = some (.slice ad nd cd) := by rw [cell_of_row w7 _ 10 _ _ _ bx]; rfl
  clear bx
  go_wp2_with fail
  refine (HOL7.out).mono ?_
  rintro e w8 ⟨oo, oc, OA, OC, rfl, hOr, hOd, B78⟩
  have HL8 := Lib.hid (HL7.out.below B78)
  have HQ8 := Lib.hid (HQ7.out.below B78)
  have HQB8 := Lib.hid ((B78.block w6.heap.size (Array.getElem?_eq_some_iff.1 HQB7.out).1).trans HQB7.out)
  obtain ⟨b, o, hr⟩ := HH.out
  have HR := Lib.hid hr
  obtain ⟨rfl, hbl, c0, c1, c2, cb, _⟩ := hr k (by omega)
  have lo8 := HL8.out.low
  have c0 : w8.cell? ⟨b, o + k * 3, none⟩ = some (.int .i64 (pt k)) := (lo8.cell (p := ⟨b, o + k * 3, none⟩) hbl).trans c0
  have c1 : w8.cell? ⟨b, o + k * 3 + 1, none⟩ = some (.int .i64 (of k)) := (lo8.cell (p := ⟨b, o + k * 3 + 1, none⟩) hbl).trans c1
  have c2 : w8.cell? ⟨b, o + k * 3 + 2, none⟩ = some (.slice (A k) (ds k).length (C k)) := (lo8.cell (p := ⟨b, o + k * 3 + 2, none⟩) hbl).trans c2
  have CB8 := Lib.hid (cb.below lo8)
  have HOS := Lib.hid (os_at hOr hOd HRS.out).1
  have hkoc := (os_at hOr hOd HRS.out).2
  have HBL := Lib.hid hbl
  have hsub : IntKind.i64.wrap (((k + 1 : Nat) : Int) - 1) = (k : Int) := by rw [IntKind.wrap_i64]; omega
  have hsub2 : ((k + 1 : Nat) : Int) - 1 = (k : Int) := by omega
  have hi0 : (0 : Int) ≤ (k : Int) := by omega
  have hi2 : (k : Int) < ((k + 1 : Nat) : Int) := by omega
  clear hr cb lo8 hOr hOd hbl B78 HL7 HQ7 HQB7 HOL7 HW7 HB57 HB5 d0 d1 d2 d3 d4 d5 d6 d7 d8 d9 d10
  go_upto_region 12 with (fail)
  obtain ⟨w9, hw9⟩ : ∃ w9, w8.alloc (.cells #[.int .i64 (pt k), .int .i64 (of k), .slice (A k) (ds k).length (C k)] 54) = w9 := ⟨_, rfl⟩
  rw [hw9]
  have B89 : Below w8.heap.size w8 w9 := by rw [← hw9]; exact bel_alloc w8 _
  have hl9 : w9.heap[w8.heap.size]? = some (.cells #[.int .i64 (pt k), .int .i64 (of k), .slice (A k) (ds k).length (C k)] 54 (0, 0)) := by rw [← hw9]; exact lit_new rfl
  have HL9 := Lib.hid (HL8.out.below B89)
  have HQ9 := HQ8.out.below B89
  have HQB9 := Lib.hid ((B89.block w6.heap.size (Array.getElem?_eq_some_iff.1 HQB8.out).1).trans HQB8.out)
  have CB9 := CB8.out.below B89
  have HOS9 := Lib.hid (OsAt.below HOS.out B89)
  have HSA : Calls Try.prog 12 #[.slice qa3 (ds k).length qc3, .slice (A k) (ds k).length (C k)] w9 (Drawn (.bool true) w9) := by
    have := same_any qa3 (A k) _ _ qc3 (C k) _ _ w9 HQ9 CB9
    rwa [decide_eq_true rfl] at this
  have HSA := Lib.hid HSA
  have bq := HQB9.out
  have bp := HL9.out.box
  have l0 : w9.cell? ⟨w8.heap.size, 0, none⟩ = some (.int .i64 (pt k)) := by rw [cell_of_row w9 _ 0 _ _ _ hl9]; rfl
  have l2 : w9.cell? ⟨w8.heap.size, 2, none⟩ = some (.slice (A k) (ds k).length (C k)) := by rw [cell_of_row w9 _ 2 _ _ _ hl9]; rfl
  have q1 : w9.cell? ⟨w6.heap.size, 1, none⟩ = some (.int .i64 (pt k)) := by rw [cell_of_row w9 _ 1 _ _ _ bq]; rfl
  have q9 : w9.cell? ⟨w6.heap.size, 9, none⟩ = some (.slice qa3 (ds k).length qc3) := by rw [cell_of_row w9 _ 9 _ _ _ bq]; rfl
  clear hw9 bq bp HL8 HQ8 HQB8 CB8 HOS HQ9 CB9 B89 hl9 c0 c1 c2
  have hpk : (pt k != pt k) = false := by simp
  have hkk : ((k : Int) != (k : Int)) = false := by simp
  have hts : (ts != ts) = false := by simp
  have hsq : (sq != sq) = false := by simp
  go_wp2_with (
    go_at_call 12
    refine (HSA.out).mono ?_
    rintro e w10 ⟨rfl, j, hw10⟩
    have B9a : Below w9.heap.size w9 w10 := by rw [hw10]; exact below_drewN w9 _ j
    clear hw10
    have HL10 := Lib.hid (HL9.out.below B9a)
    have HQB10 := Lib.hid ((B9a.block w6.heap.size (Array.getElem?_eq_some_iff.1 HQB9.out).1).trans HQB9.out)
    have HOS10 := Lib.hid (OsAt.below HOS9.out B9a)
    have bq := HQB10.out
    have bp := HL10.out.box
    have q2 : w10.cell? ⟨w6.heap.size, 2, none⟩ = some (.int .u16 sq) := by rw [cell_of_row w10 _ 2 _ _ _ bq]; rfl
    have q3 : w10.cell? ⟨w6.heap.size, 3, none⟩ = some (.int .u32 ts) := by rw [cell_of_row w10 _ 3 _ _ _ bq]; rfl
    have p2 : w10.cell? ⟨w.heap.size, 2, none⟩ = some (.int .u16 sq) := by rw [cell_of_row w10 _ 2 _ _ _ bp]; rfl
    have p3 : w10.cell? ⟨w.heap.size, 3, none⟩ = some (.int .u32 ts) := by rw [cell_of_row w10 _ 3 _ _ _ bp]; rfl
    clear bq bp HL9 HQB9 HOS9 B9a)
  have HLW := Lib.hid HL10.out.low
  clear HSA l0 l2 q1 q9 q2 q3 p2 p3 hpk hkk hts hsq hsub hsub2 hi0 hi2 c0 c1 c2 HQB10
  go_loopw [97] (fun iv wr => ∃ i : Nat, i ≤ k ∧ iv = .int .i64 i ∧ Hid (Below w10.heap.size w10 wr)) (fun iv _ => k - (intOf iv).toNat)
  case atStart => exact ⟨0, Nat.zero_le _, rfl, Lib.hid (Below.refl _ _)⟩
  case round =>
    obtain ⟨i, hi, rfl, HB⟩ := hrel
    by_cases hlt : i < k
    · have hiz : (i : Int) < (k : Int) := by omega
      have hi0 : (0 : Int) ≤ (i : Int) := by omega
      have hiz3 : (i : Int) < (k : Int) + 1 := by omega
      have hiz2 : (i : Int) < ((k + 1 : Nat) : Int) := by omega
      have hLr := HL10.out.below HB.out
      obtain ⟨g, ho⟩ := OsAt.below HOS10.out HB.out
      obtain ⟨rfl, hgl, hc, hbo, _⟩ := ho i hlt
      have o0 : wr.cell? ⟨g, i * 11, none⟩ = some (.bool false) := hc 0 (by decide)
      have o1 : wr.cell? ⟨g, i * 11 + 1, none⟩ = some (.int .i64 (pt i)) := hc 1 (by decide)
      have o2 : wr.cell? ⟨g, i * 11 + 2, none⟩ = some (.int .u16 0) := hc 2 (by decide)
      have o3 : wr.cell? ⟨g, i * 11 + 3, none⟩ = some (.int .u32 (Ser.add32 ts (-(of i)))) := hc 3 (by decide)
      have o4 : wr.cell? ⟨g, i * 11 + 4, none⟩ = some (.int .u32 ss) := hc 4 (by decide)
      have o5 : wr.cell? ⟨g, i * 11 + 5, none⟩ = some (.slice none 0 0) := hc 5 (by decide)
      have o6 : wr.cell? ⟨g, i * 11 + 6, none⟩ = some (.bool false) := hc 6 (by decide)
      have o7 : wr.cell? ⟨g, i * 11 + 7, none⟩ = some (.int .u16 0) := hc 7 (by decide)
      have o8 : wr.cell? ⟨g, i * 11 + 8, none⟩ = some (.slice none 0 0) := hc 8 (by decide)
      have o9 : wr.cell? ⟨g, i * 11 + 9, none⟩ = some (.slice (OA i) (ds i).length (OC i)) := hc 9 (by decide)
      have o10 : wr.cell? ⟨g, i * 11 + 10, none⟩ = some (.slice none 0 0) := hc 10 (by decide)
      obtain ⟨_, _, b0, b1, b2, bb, _⟩ := HR.out i (by omega)
      obtain ⟨wx, hwx⟩ : ∃ wx, wr.alloc (.cells #[.bool false, .int .i64 (pt i), .int .u16 0, .int .u32 (Ser.add32 ts (-(of i))), .int .u32 ss, .slice none 0 0, .bool false, .int .u16 0, .slice none 0 0, .slice (OA i) (ds i).length (OC i), .slice none 0 0] 27) = wx := ⟨_, rfl⟩
      have Brx : Below wr.heap.size wr wx := by rw [← hwx]; exact bel_alloc wr _
      have hxx : wx.heap[wr.heap.size]? = some (.cells #[.bool false, .int .i64 (pt i), .int .u16 0, .int .u32 (Ser.add32 ts (-(of i))), .int .u32 ss, .slice none 0 0, .bool false, .int .u16 0, .slice none 0 0, .slice (OA i) (ds i).length (OC i), .slice none 0 0] 27 (0, 0)) := by rw [← hwx]; exact lit_new rfl
      have hLx := hLr.below Brx
      have lox := hLx.low
      have bp := hLx.box
      have c0 : wx.cell? ⟨b, o + i * 3, none⟩ = some (.int .i64 (pt i)) := (lox.cell (p := ⟨b, o + i * 3, none⟩) HBL.out).trans b0
      have c1 : wx.cell? ⟨b, o + i * 3 + 1, none⟩ = some (.int .i64 (of i)) := (lox.cell (p := ⟨b, o + i * 3 + 1, none⟩) HBL.out).trans b1
      have c2 : wx.cell? ⟨b, o + i * 3 + 2, none⟩ = some (.slice (A i) (ds i).length (C i)) := (lox.cell (p := ⟨b, o + i * 3 + 2, none⟩) HBL.out).trans b2
      have x1 : wx.cell? ⟨wr.heap.size, 1, none⟩ = some (.int .i64 (pt i)) := by rw [cell_of_row wx _ 1 _ _ _ hxx]; rfl
      have x3 : wx.cell? ⟨wr.heap.size, 3, none⟩ = some (.int .u32 (Ser.add32 ts (-(of i)))) := by rw [cell_of_row wx _ 3 _ _ _ hxx]; rfl
      have x4 : wx.cell? ⟨wr.heap.size, 4, none⟩ = some (.int .u32 ss) := by rw [cell_of_row wx _ 4 _ _ _ hxx]; rfl
      have x9 : wx.cell? ⟨wr.heap.size, 9, none⟩ = some (.slice (OA i) (ds i).length (OC i)) := by rw [cell_of_row wx _ 9 _ _ _ hxx]; rfl
      have p3 : wx.cell? ⟨w.heap.size, 3, none⟩ = some (.int .u32 ts) := by rw [cell_of_row wx _ 3 _ _ _ bp]; rfl
      have p4 : wx.cell? ⟨w.heap.size, 4, none⟩ = some (.int .u32 ss) := by rw [cell_of_row wx _ 4 _ _ _ bp]; rfl
      have HSA : Hid (∀ j, Calls Try.prog 12 #[.slice (OA i) (ds i).length (OC i), .slice (A i) (ds i).length (C i)] (wx.drewN j) fun e w' => e = .returned (.bool true) ∧ ∃ m, w' = (wx.drewN j).drewN m) := Lib.hid fun j => by
        have := same_any (OA i) (A i) _ _ (OC i) (C i) _ _ _ ((hbo.below Brx).below (below_drewN wx _ j)) ((bb.below lox).below (below_drewN wx _ j))
        rw [decide_eq_true rfl] at this
        exact this
      have hof := HVD.out.ofs i (by omega)
      have hneg : IntKind.i64.wrap (-(of i)) = -(of i) := by rw [IntKind.wrap_i64]; omega
      have HAD : Hid (∀ W, Calls Try.prog 27 #[.int .u32 ts, .int .i64 (-(of i))] W fun e w' => e = .returned (.int .u32 (Ser.add32 ts (-(of i)))) ∧ W = w') := Lib.hid fun W => refadd32_any ts (-(of i)) HTS.out.1 HTS.out.2 (by omega) (by omega) W
      have HBx := Lib.hid (HB.out.trans (Brx.mono HB.out.size))
      have HWX := Lib.hid hwx
      clear hwx hxx bp Brx hLr hLx lox b0 b1 b2 bb hbo hc ho hof HB
      generalize pt i = vp at *
      generalize of i = vo at *
      generalize (ds i).length = z at *
      have hpt : (vp != vp) = false := by simp
      have hss : (ss != ss) = false := by simp
      have hta : (Ser.add32 ts (-vo) != Ser.add32 ts (-vo)) = false := by simp
      go_upto_region 17 with (fail)
      rw [HWX.out]
      go_quiet ((first | (go_at_call 12; exact Calls.quiet_of (HSA.out _)) | (go_at_call 27; exact Calls.quiet_of_same ((HAD.out _).mono fun _ _ ⟨a, b⟩ => ⟨a, b.symm⟩))))
      go_wp2_with fail
      go_roundw
      case rel => exact ⟨i + 1, by omega, by go_num, Lib.hid (HBx.out.trans (below_drewN _ _ _))⟩
      case measure => simp [intOf]; omega
    · obtain rfl : i = k := by omega
      go_wp2_with fail
      go_ret
      exact ⟨rfl, HLW.out.trans (HB.out.mono HLW.out.size)⟩
end Go.Proofs.Ytpannhbmelcpfaa

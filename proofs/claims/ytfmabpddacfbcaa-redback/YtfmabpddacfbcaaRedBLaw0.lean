
/-
  RedBack: the plain side.
-/
import Derived.Test.YtfmabpddacfbcaaRedAl
import Derived.Test.YtfmabpddacfbcaaRedSmall
import Derived.Test.YtfmabpddacfbcaaRedBlkNo
import Derived.Test.YtfmabpddacfbcaaRedWrapNo
import Derived.Test.YtfmabpddacfbcaaRbSame
import Derived.Test.YtfmabpddacfbcaaRtpRSame
namespace Go.Proofs.Ytfmabpddacfbcaa
open Go.RowKit Go.Shelf
set_option linter.unusedVariables false
theorem bkin_cap2 {w : World} {a : Option Addr} {len cap : Nat} {P O : Nat → Int} {A : Nat → Option Addr} {L C : Nat → Nat} {Z : Nat → List Int} (h : BkIn w a len cap P O A L C Z) : len ≤ cap := by
  rcases h with ⟨_, h1, h2⟩ | ⟨x, _, h1, _⟩ <;> omega
theorem BkAt.congr {W : World} {a : Option Addr} {n : Nat} {pt of pt' of' : Nat → Int} {A : Nat → Option Addr} {C : Nat → Nat} {ds ds' : Nat → List Int} (h : BkAt W a n pt of A C ds) (he : ∀ i, i < n → pt i = pt' i ∧ of i = of' i ∧ ds i = ds' i) : BkAt W a n pt' of' A C ds' := by
  obtain ⟨b, o, hr⟩ := h
  refine ⟨b, o, fun i hi => ?_⟩
  obtain ⟨e1, e2, e3⟩ := he i hi
  have := hr i hi
  rw [e1, e2, e3] at this
  exact this
/-- A valid chain is written, and what is written is this. -/
theorem rvld_code {pt of : Nat → Int} {ds : Nat → List Int} {k : Nat} (h : RVld pt of ds k) : rwcode (k + 1) pt of ds = 0 ∧ rwbytes (k + 1) pt of ds = renc pt of ds k := by
  have hk := h.few
  have hF : okF pt of (k + 1) = true := (okF_all _).2 fun i hi => by
    have h1 := h.pts i (by omega); have h2 := h.ofs i (by omega)
    simp [okB, okPT]; omega
  have hL : anyL ds k = false := (anyL_none k).2 fun i hi => h.len i hi
  have hT := h.tot
  have hc : rwcode (k + 1) pt of ds = 0 := by
    unfold rwcode
    rw [if_neg (by omega), if_neg (by omega), if_neg (by rw [hF, Nat.add_sub_cancel]; simp [h.of0]), Nat.add_sub_cancel, if_neg]
    simp only [psum] at hT
    simp [rlong, hL]; omega
  exact ⟨hc, by unfold rwbytes; rw [if_pos hc, Nat.add_sub_cancel]⟩
/-- One block's chain. -/
theorem one1_vld {p : Int} {l : List Int} (h : rwcode 1 (fun _ => p) (fun _ => 0) (fun _ => l) = 0) (ho : Str.Ok l) : RVld (fun _ => p) (fun _ => 0) (fun _ => l) 0 := by
  obtain ⟨k, hk, hv⟩ := rwcode_vld h (fun _ _ => ho)
  obtain rfl : k = 0 := by omega
  exact hv
theorem one1_back {p : Int} {l : List Int} (h : RVld (fun _ => p) (fun _ => 0) (fun _ => l) 0) : Good (one1 p l) 0 ∧ ppt (one1 p l) 0 = p ∧ pdat (one1 p l) 0 0 = l :=
  ⟨renc_good h, renc_ppt h (Nat.le_refl _), renc_pdat h (Nat.le_refl _)⟩
def zpk : Pk := ⟨false, 0, 0, 0, 0, [], false, 0, [], [], []⟩
def zpl : Pl := ⟨none, 0, 0, none, 0, 0, none, 0, 0, none, 0, 0⟩
theorem zpk_at (W : World) : PkAt W zpk zpl := ⟨⟨rfl, 0, 0, fun i hi => by cases hi⟩, BAt.none W, BAt.none W, BAt.none W, by decide, by decide, by decide, by decide⟩
theorem pdat_le (l : List Int) (K i : Nat) : (pdat l K i).length ≤ l.length := by
  unfold pdat; split
  · rw [List.length_take, List.length_drop]; omega
  · rw [List.length_drop]; omega
/-- What was written is parsed as it. -/
def PwPost (a : Option Addr) (n c : Nat) (W : World) (e : Ending) (w' : World) : Prop :=
  ∃ ao co, e = .returned (.tuple #[.slice ao n co, .int .i64 0]) ∧ Below W.heap.size W w' ∧ ∀ W', Below w'.heap.size w' W' → Calls Try.prog 12 #[.slice ao n co, .slice a n c] W' (ValB (.bool true) W')
theorem pw_any (a : Option Addr) (n c : Nat) (pt of : Nat → Int) (A : Nat → Option Addr) (C : Nat → Nat) (ds : Nat → List Int) (w : World) (h : BkAt w a n pt of A C ds) (hc : rwcode n pt of ds = 0) (W : World) (hB : Below w.heap.size w W) (a3 : Option Addr) (n3 c3 : Nat) (hO : BAt W a3 n3 (rwbytes n pt of ds)) (hnc : n3 ≤ c3) :
    Calls Try.prog 11 #[.slice a3 n3 c3] W (PwPost a n c W) := by
  have hok : ∀ i, i < n → Str.Ok (ds i) := fun i hi => by obtain ⟨b, o, hr⟩ := h; exact (hr i hi).2.2.2.2.2.1.ok
  obtain ⟨k, rfl, hv⟩ := rwcode_vld hc hok
  have hk := hv.few
  rw [(rvld_code hv).2] at hO
  have hlen := hO.len
  have hl2 := renc_len hv; have hl3 := hv.tot
  refine (rparse_ok a3 n3 c3 _ k W hO hnc (renc_good hv) (by omega)).mono ?_
  rintro e w' ⟨ao, co, rfl, hrow, hBe⟩
  obtain ⟨A', C', hbk, _⟩ := hrow.at
  have hbk2 := hbk.congr (fun i hi => ⟨renc_ppt hv (by omega), renc_pof hv (by omega), renc_pdat hv (by omega)⟩)
  exact ⟨ao, co, rfl, hBe, fun W' hW' => rbsame_any ao a (k + 1) co c pt of A' A C' C ds W' (hbk2.below hW') ((h.below (hB.trans (hBe.mono hB.size))).below hW') (by omega)⟩
/-- What was parsed is written as it. -/
def PbPost (b : Option Addr) (m d : Nat) (W : World) (e : Ending) (w' : World) : Prop :=
  (∃ ao K co, e = .returned (.tuple #[.slice ao (K + 1) co, .int .i64 0]) ∧ Below W.heap.size W w' ∧ (m ≤ 1500 → ∀ W', Below w'.heap.size w' W' → Calls Try.prog 7 #[.slice ao (K + 1) co] W' (fun e w2 => ∃ a5 n5 c5, e = .returned (.tuple #[.slice a5 n5 c5, .int .i64 0]) ∧ Below W'.heap.size W' w2 ∧ ∀ W3, Below w2.heap.size w2 W3 → Calls Try.prog 9 #[.slice a5 n5 c5, .slice b m d] W3 (Drawn (.bool true) W3)))) ∨
  (∃ f, (f != 0) = true ∧ e = .returned (.tuple #[.slice none 0 0, .int .i64 f]) ∧ Below W.heap.size W w')
theorem pb_any (b : Option Addr) (m d : Nat) (l : List Int) (w : World) (hl : BAt w b m l) (hmd : m ≤ d) (hm : m ≤ 3000) (W : World) (hB : Below w.heap.size w W) :
    Calls Try.prog 11 #[.slice b m d] W (PbPost b m d W) := by
  have hlen := hl.len
  refine (rparse_any b m d l W (hl.below hB) hmd (by omega)).mono ?_
  rintro e w' (⟨K, hG, ao, co, rfl, hrow, hBe⟩ | ⟨f, hf, rfl, hBe⟩)
  · left
    obtain ⟨A', C', hbk, hco, _⟩ := hrow.at
    refine ⟨ao, K, co, rfl, hBe, fun hm2 W' hW' => ?_⟩
    have hv := psd_vld hG hl.ok (by omega)
    have hk := hv.few
    have hcode := rvld_code hv
    have hw := redw_any ao (K + 1) co (ppt l) (pof l) A' C' (pdat l K) W' (hbk.below hW') (by omega) hco (fun i hi => by have := pdat_le l K i; omega)
    rw [hcode.1, hcode.2, psd_back hG hl.ok] at hw
    refine hw.mono ?_
    rintro e w2 ⟨a5, n5, c5, rfl, hO5, hB5⟩
    refine ⟨a5, n5, c5, rfl, hB5, fun W3 hW3 => ?_⟩
    have hb3 : BAt W3 b m l := (((hl.below hB).below hBe).below hW').below hB5 |>.below hW3
    have := same_any a5 b n5 m c5 d l l W3 (hO5.bat.below hW3) hb3
    simpa using this
  · exact .inr ⟨f, hf, rfl, hBe⟩
/-- What was wrapped is the primary one of it. -/
def WpPost (p : Pk) (s : Pl) (qt : Int) (W : World) (e : Ending) (w' : World) : Prop :=
  ∃ p' s', e = .returned (.tuple #[.agg (pkc p' s'), .int .i64 0]) ∧ p'.pt = qt ∧ Below W.heap.size W w' ∧ ∀ W', Below w'.heap.size w' W' → Calls Try.prog 15 #[.agg (pkc p' s')] W' (fun e w2 => ∃ s2, e = .returned (.tuple #[.agg (pkc p s2), .int .i64 0]) ∧ Below W'.heap.size W' w2 ∧ ∀ W3, Below w2.heap.size w2 W3 → Calls Try.prog 14 #[.agg (pkc p s2), .agg (pkc p s)] W3 (ValB (.bool true) W3))
theorem wp_any (p : Pk) (s : Pl) (qt : Int) (w : World) (hp : PkAt w p s) (hs : Sm s) (hcp : s.np ≤ s.cp) :
    (∃ f, (f != 0) = true ∧ ∀ W, Below w.heap.size w W → Calls Try.prog 13 #[.agg (pkc p s), .int .i64 qt] W (PrNo f W)) ∨
    (∀ W, Below w.heap.size w W → Calls Try.prog 13 #[.agg (pkc p s), .int .i64 qt] W (WpPost p s qt W)) := by
  cases hq : okPT qt
  · exact .inl ⟨1, rfl, fun W hB => wrap_no1 p s qt W hq⟩
  · by_cases hc : rwcode 1 (fun _ => p.pt) (fun _ => 0) (fun _ => p.payload) = 0
    · right
      intro W hB
      have hv := one1_vld hc hp.pay.ok
      have hpt : okPT p.pt = true := by have := hv.pts 0 (by omega); simp [okPT]; omega
      have htot := hv.tot
      simp only [psum] at htot
      have hlp := hp.pay.len
      obtain ⟨hG, hppt, hpdat⟩ := one1_back hv
      refine (wrap_ok p s qt W (hp.below hB) hs hcp hq hpt (by omega)).mono ?_
      rintro e w' ⟨s', rfl, hO, hBe, hsm⟩
      refine ⟨_, s', rfl, rfl, hBe, fun W' hW' => ?_⟩
      have hat := hO.in.at
      have hpr : Calls Try.prog 15 #[.agg (pkc { p with pt := qt, payload := one1 p.pt p.payload } s')] W' (PrOut p 0 W') := by
        have h0 := primary_ok { p with pt := qt, payload := one1 p.pt p.payload } s' 0 W' (hat.below hW') hsm hO.pay.cap6 hG
        simp only [hppt, hpdat] at h0
        exact h0
      refine hpr.mono ?_
      rintro e w2 ⟨s2, rfl, hO2, hB2, hs2⟩
      refine ⟨s2, rfl, hB2, fun W3 hW3 => ?_⟩
      have h1 := rsame5_any p p s2 s W3 (hO2.in.at.below hW3) ((((hp.below hB).below hBe).below hW').below hB2 |>.below hW3) hs2 hs
      rwa [pkEq_self] at h1
    · left
      exact ⟨_, by simpa using hc, fun W hB => wrap_no2 p s qt W (hp.below hB) hs hcp hq (by simpa using hc)⟩
theorem zz_any (W : World) : Calls Try.prog 14 #[.agg (pkc zpk zpl), .agg (pkc zpk zpl)] W (ValB (.bool true) W) := by
  have h1 := rsame5_any zpk zpk zpl zpl W (zpk_at W) (zpk_at W) (by unfold Sm zpl; simp) (by unfold Sm zpl; simp)
  rwa [pkEq_self] at h1
end Go.Proofs.Ytfmabpddacfbcaa

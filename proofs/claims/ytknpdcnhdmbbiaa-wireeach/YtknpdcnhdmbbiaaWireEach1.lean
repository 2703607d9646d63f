
/-
  wire.Each and confluxref03.Each over parse's steps end alike.
-/
import Derived.Test.YtknpdcnhdmbbiaaWireEach0
namespace Go.Proofs.Ytknpdcnhdmbbiaa
open Go.RowKit Go.Shelf
set_option linter.unusedVariables false
def eX (ks ns : Nat → Int) (l : List Int) (n n0 : Nat) (r : Nat) : Nat → Int := gotX ks ns (l.drop (eachP ks ns n n0 r))
def eB (ks ns : Nat → Int) (l : List Int) (n n0 : Nat) (r : Nat) : Nat → List Int := gotB ks ns (l.drop (eachP ks ns n n0 r))
/-- Where the loop stands ahead of round r. -/
structure ESt (w : World) (n : Nat) (l : List Int) (a0 : Option Addr) (n0 : Nat) (ks ns : Nat → Int) (r : Nat) (a : Option Addr) (c : Nat) (ao : Option Addr) (co : Nat) (W : World) : Prop where
  row : BAt W a (n - eachP ks ns n n0 r) (l.drop (eachP ks ns n n0 r))
  cap : n - eachP ks ns n n0 r ≤ c
  low : 0 < n - eachP ks ns n n0 r → ∀ x, a = some x → x.block < w.heap.size
  st : StAt W a0 n0 ks ns
  out : ERow W w.heap.size ao r co n0 (eX ks ns l n n0) (eB ks ns l n n0)
  keep : Below w.heap.size w W
/-- One round on. -/
theorem ESt.next {w : World} {n : Nat} {l : List Int} {a0 : Option Addr} {n0 : Nat} {ks ns : Nat → Int} {r : Nat} {a : Option Addr} {c : Nat} {ao : Option Addr} {co : Nat} {W w1 : World} (h : ESt w n l a0 n0 ks ns r a c ao co W) (hs0 : StAt w a0 n0 ks ns) (hB : Below W.heap.size W w1) (a' : Option Addr) (c' : Nat) (hG : GRow w1 W.heap.size a' n0 c' (eX ks ns l n n0 r) (eB ks ns l n n0 r)) (hp : pos ks ns (n - eachP ks ns n n0 r) n0 ≤ n - eachP ks ns n n0 r) (hr : r ≤ 1000000) (ty : TypeId) :
    ∃ a2 c2 w2, (Builtin.append_ #[25, 25] ty #[.slice ao r co, .slice (some ⟨w1.heap.size, 0, none⟩) 1 1]).run Try.prog (w1.alloc (.cells #[.slice a' n0 c'] 29)) = .ok (.slice a2 (r + 1) c2) w2 ∧
      ESt w n l a0 n0 ks ns (r + 1) (restA a c (pos ks ns (n - eachP ks ns n n0 r) n0)) (c - pos ks ns (n - eachP ks ns n n0 r) n0) a2 c2 w2 := by
  have hz := h.keep.size; have hz1 := hB.size
  have hoff : GOff w1 w.heap.size a' n0 c' (eX ks ns l n n0 r) (eB ks ns l n n0 r) (ao.map (·.block)) := hG.off (fun k e => by
    cases ao with
    | none => cases e
    | some y => have := (h.out.blk y rfl).2; simp at e; omega) hz
  obtain ⟨a2, c2, w2, hrun, hE, hB2⟩ := append_erow w1 ty w.heap.size ao r co n0 _ _ (h.out.below hB) a' c' (.inr hoff) hr (by omega)
  have hBw : Below w.heap.size w w2 := (h.keep.trans (hB.mono hz)).trans hB2
  have e1 : n - eachP ks ns n n0 (r + 1) = n - eachP ks ns n n0 r - pos ks ns (n - eachP ks ns n n0 r) n0 := by simp only [eachP]; omega
  have e2 : l.drop (eachP ks ns n n0 (r + 1)) = (l.drop (eachP ks ns n n0 r)).drop (pos ks ns (n - eachP ks ns n n0 r) n0) := by simp only [eachP, List.drop_drop]
  have hlow := restA_low h.cap hp h.low
  have hrow := restA_bat h.row h.cap _ hp
  have hWb : Below w.heap.size W w2 := (hB.mono hz).trans hB2
  refine ⟨a2, c2, w2, hrun, ?_, ?_, ?_, hs0.below hBw, hE, hBw⟩
  · rw [e1, e2]
    exact hrow.same hWb.size fun x h0 hx _ => hWb.block x.block (hlow h0 x hx)
  · rw [e1]; have := h.cap; omega
  · rw [e1]; exact hlow
set_option maxHeartbeats 4000000 in
set_option maxRecDepth 100000 in
theorem weach_any (a : Option Addr) (n c : Nat) (l : List Int) (S : Nat) (a0 : Option Addr) (n0 c0 : Nat) (ks ns : Nat → Int) (most : Int) (R rows : Nat) (f : Int) (w : World) (hb : BAt w a n l) (hc : n ≤ c) (hs : StAt w a0 n0 ks ns) (hS : w.cell? ⟨S, 0, none⟩ = some (.slice a0 n0 c0)) (hn : n ≤ 300) (hn0 : n0 ≤ 100)
    (hR : R ≤ n) (hgood : ∀ r, r < R → Good ks ns n n0 most r) (hsay : Says ks ns n n0 most R rows f) :
    Calls Try.prog 11 #[.slice a n c, .int .i64 most, .func (.func 52) #[] #[.pointer (some ⟨S, 0, none⟩)]] w (EOut rows n0 (eX ks ns l n n0) (eB ks ns l n n0) f w) := by
  have hSl : S < w.heap.size := World.block_lt_of_cell? w _ hS
  have PART : Hid (∀ r a c ao co W F, ESt w n l a0 n0 ks ns r a c ao co W → F ≤ n0 → (∀ j, j < F → noAt ks ns (n - eachP ks ns n n0 r) j = 0) → (F < n0 → noAt ks ns (n - eachP ks ns n n0 r) F ≠ 0) → Calls Try.prog 19 #[.slice a (n - eachP ks ns n n0 r) c, .func (.func 52) #[] #[.pointer (some ⟨S, 0, none⟩)]] W (RunEnd (n - eachP ks ns n n0 r) (l.drop (eachP ks ns n n0 r)) ks ns n0 F W)) := Lib.hid fun r a c ao co W F h hF hok hbad =>
    gpart_any a _ c _ S a0 n0 c0 ks ns F W h.row h.cap h.st ((h.keep.cell (p := ⟨S, 0, none⟩) hSl).trans hS) hn0 (by omega) hF hok hbad
  have HE := Lib.hid (show ESt w n l a0 n0 ks ns 0 a c none 0 w from ⟨hb, hc, fun h0 x hx => hb.lt h0 x hx, hs, ERow.nil _ _ _ _ _, Below.refl _ _⟩)
  have HS := Lib.hid hs; have HGD := Lib.hid hgood; have HSY := Lib.hid hsay
  clear hb hs hS hgood hsay
  go_enter Try.func11, Try.ntmps11
  go_wp2_with fail
  go_loopw [0, 8] (fun s li wr => ∃ (r m : Nat) (a' : Option Addr) (c' : Nat) (ao : Option Addr) (co : Nat), r ≤ R ∧ n - eachP ks ns n n0 r = m ∧ s = .slice a' m c' ∧ li = .slice ao r co ∧ Hid (ESt w n l a0 n0 ks ns r a' c' ao co wr)) (fun s _ _ => match s with | .slice _ m _ => m | _ => 0)
  case atStart => exact ⟨0, n, a, c, none, 0, Nat.zero_le _, rfl, rfl, rfl, HE⟩
  case round =>
    obtain ⟨r, m, a', c', ao, co, hr, hm, rfl, rfl, HQ⟩ := hrel
    clear HE
    by_cases hrR : r < R
    · obtain ⟨g1, g2, g3, g4⟩ := HGD.out r hrR
      have hple := pos_le ks ns (n - eachP ks ns n n0 r) n0 g2
      have HP := Lib.hid (PART.out r a' c' ao co wr n0 HQ.out (Nat.le_refl _) g2 (fun h => by omega))
      have HNX : Hid (∀ w1 a2 c2, Below wr.heap.size wr w1 → GRow w1 wr.heap.size a2 n0 c2 (eX ks ns l n n0 r) (eB ks ns l n n0 r) → _) := Lib.hid fun w1 a2 c2 hB hG => HQ.out.next HS.out hB a2 c2 hG hple (by omega) 25
      have hmn : eachP ks ns n n0 (r + 1) = eachP ks ns n n0 r + pos ks ns (n - eachP ks ns n n0 r) n0 := rfl
      have hsl := run_rest a' (n - eachP ks ns n n0 r) c' (pos ks ns (n - eachP ks ns n n0 r) n0) hple (by omega)
      rw [hm] at HP HNX g1 g3 hple hmn hsl
      clear g2
      obtain ⟨P, hP⟩ : ∃ P, pos ks ns m n0 = P := ⟨_, rfl⟩
      rw [hP] at HNX g3 hple hmn hsl
      have hm0 : (0 : Int) < (m : Int) := by omega
      have hpz : ¬ (P : Int) ≤ 0 := by omega
      have hmz : ¬ most ≤ (r : Int) := by omega
      go_wp2_with fail
      refine (HP.out).mono ?_
      intro e w1 hE
      obtain ⟨a2, c2, rfl, hG, hB⟩ := hE.1 rfl
      rw [hP]
      obtain ⟨a3, c3, w3, hrun, hN⟩ := HNX.out w1 a2 c2 hB hG
      have HRUN := Lib.hid hrun; have HN := Lib.hid hN
      clear hrun hN hG hB hE HP HNX
      go_wp2_with (at_builtin; refine Lib.wpList_append_run _ rfl (.tmp 31) (.tmp 33) 25 25 rfl (.slice ao r co) _ (by rfl) (by rfl) _ _ HRUN.out ?_)
      go_roundw
      case rel => exact ⟨r + 1, m - P, _, _, a3, c3, by omega, by omega, rfl, rfl, HN⟩
      case measure => simp; omega
    · obtain rfl : r = R := by omega
      rcases HSY.out with ⟨h0, rfl, rfl⟩ | ⟨h0, rfl, F, hF, hok, hbad, hend⟩
      · obtain rfl : m = 0 := by omega
        go_wp2
        refine bodyPost_ret (v := .tuple #[.slice ao rows co, .int .i64 0]) (by simp [results, Try.results11, go_sem]) rfl ?_
        exact ⟨ao, co, rfl, HQ.out.out, HQ.out.keep⟩
      · have HP := Lib.hid (PART.out r a' c' ao co wr F HQ.out hF hok hbad)
        clear hok
        rw [hm] at HP h0 hbad hend
        have hm0 : (0 : Int) < (m : Int) := by omega
        rcases hend with ⟨hFn, hf⟩ | ⟨rfl, hp0, rfl⟩ | ⟨rfl, hp0, hmost, rfl⟩
        · have hfz : (f != 0) = true := by rw [bne_iff_ne, hf]; exact hbad hFn
          have HF := Lib.hid hf; clear hf
          go_wp2_with fail
          refine (HP.out).mono ?_
          intro e w1 hE
          obtain ⟨rfl, hB⟩ := hE.2 hFn
          rw [← HF.out]
          have HB := Lib.hid hB; clear hB hE HP hbad
          go_wp2
          refine bodyPost_ret (v := .tuple #[.slice none 0 0, .int .i64 f]) (by simp [results, Try.results11, go_sem]) rfl ?_
          exact ⟨none, 0, rfl, ERow.nil _ _ _ _ _, HQ.out.keep.trans (HB.out.mono HQ.out.keep.size)⟩
        · obtain ⟨P, hP⟩ : ∃ P, pos ks ns m F = P := ⟨_, rfl⟩
          rw [hP] at hp0
          have hpz : (P : Int) ≤ 0 := by omega
          go_wp2_with fail
          refine (HP.out).mono ?_
          intro e w1 hE
          obtain ⟨a2, c2, rfl, hG, hB⟩ := hE.1 rfl
          rw [hP]
          have HB := Lib.hid hB; clear hB hE HP hbad hG
          go_wp2
          refine bodyPost_ret (v := .tuple #[.slice none 0 0, .int .i64 21]) (by simp [results, Try.results11, go_sem]) rfl ?_
          exact ⟨none, 0, rfl, ERow.nil _ _ _ _ _, HQ.out.keep.trans (HB.out.mono HQ.out.keep.size)⟩
        · obtain ⟨P, hP⟩ : ∃ P, pos ks ns m F = P := ⟨_, rfl⟩
          rw [hP] at hp0
          have hpz : ¬ (P : Int) ≤ 0 := by omega
          go_wp2_with fail
          refine (HP.out).mono ?_
          intro e w1 hE
          obtain ⟨a2, c2, rfl, hG, hB⟩ := hE.1 rfl
          rw [hP]
          have HB := Lib.hid hB; clear hB hE HP hbad hG
          go_wp2
          refine bodyPost_ret (v := .tuple #[.slice none 0 0, .int .i64 3]) (by simp [results, Try.results11, go_sem]) rfl ?_
          exact ⟨none, 0, rfl, ERow.nil _ _ _ _ _, HQ.out.keep.trans (HB.out.mono HQ.out.keep.size)⟩
set_option maxHeartbeats 4000000 in
set_option maxRecDepth 100000 in
theorem reach_any (a : Option Addr) (n c : Nat) (l : List Int) (a0 : Option Addr) (n0 c0 : Nat) (ks ns : Nat → Int) (most : Int) (R rows : Nat) (f : Int) (w : World) (hb : BAt w a n l) (hc : n ≤ c) (hs : StAt w a0 n0 ks ns) (hn : n ≤ 300) (hn0 : n0 ≤ 100)
    (hR : R ≤ n) (hgood : ∀ r, r < R → Good ks ns n n0 most r) (hsay : Says ks ns n n0 most R rows f) :
    Calls Try.prog 13 #[.slice a n c, .int .i64 most, .slice a0 n0 c0] w (EOut rows n0 (eX ks ns l n n0) (eB ks ns l n n0) f w) := by
  have PART : Hid (∀ r a c ao co W F, ESt w n l a0 n0 ks ns r a c ao co W → F ≤ n0 → (∀ j, j < F → noAt ks ns (n - eachP ks ns n n0 r) j = 0) → (F < n0 → noAt ks ns (n - eachP ks ns n n0 r) F ≠ 0) → Calls Try.prog 54 #[.slice a (n - eachP ks ns n n0 r) c, .slice a0 n0 c0] W (RunEnd (n - eachP ks ns n n0 r) (l.drop (eachP ks ns n n0 r)) ks ns n0 F W)) := Lib.hid fun r a c ao co W F h hF hok hbad =>
    run_any a _ c _ a0 n0 c0 ks ns F W h.row h.cap h.st hn0 (by omega) hF hok hbad
  have hB0 : Below w.heap.size w (w.alloc (.cells #[] 29)) := (Below.refl _ w).alloc (Nat.le_refl _) _
  have HE := Lib.hid (show ESt w n l a0 n0 ks ns 0 a c (some ⟨w.heap.size, 0, none⟩) 0 (w.alloc (.cells #[] 29)) from ⟨hb.below hB0, hc, fun h0 x hx => hb.lt h0 x hx, hs.below hB0, ⟨fun _ => none, fun _ => 0, World.ownsRow_made w _ 0 (Nat.le_refl _) (by decide) rfl, fun j hj => by omega⟩, hB0⟩)
  have HS := Lib.hid hs; have HGD := Lib.hid hgood; have HSY := Lib.hid hsay
  clear hb hs hgood hsay hB0
  go_enter Try.func13, Try.ntmps13
  go_wp2_with fail
  go_loopw [0, 8] (fun s li wr => ∃ (r m : Nat) (a' : Option Addr) (c' : Nat) (ao : Option Addr) (co : Nat), r ≤ R ∧ n - eachP ks ns n n0 r = m ∧ s = .slice a' m c' ∧ li = .slice ao r co ∧ Hid (ESt w n l a0 n0 ks ns r a' c' ao co wr)) (fun s _ _ => match s with | .slice _ m _ => m | _ => 0)
  case atStart => exact ⟨0, n, a, c, some ⟨w.heap.size, 0, none⟩, 0, Nat.zero_le _, rfl, rfl, rfl, HE⟩
  case round =>
    obtain ⟨r, m, a', c', ao, co, hr, hm, rfl, rfl, HQ⟩ := hrel
    clear HE
    by_cases hrR : r < R
    · obtain ⟨g1, g2, g3, g4⟩ := HGD.out r hrR
      have hple := pos_le ks ns (n - eachP ks ns n n0 r) n0 g2
      have HP := Lib.hid (PART.out r a' c' ao co wr n0 HQ.out (Nat.le_refl _) g2 (fun h => by omega))
      have HNX : Hid (∀ w1 a2 c2, Below wr.heap.size wr w1 → GRow w1 wr.heap.size a2 n0 c2 (eX ks ns l n n0 r) (eB ks ns l n n0 r) → _) := Lib.hid fun w1 a2 c2 hB hG => HQ.out.next HS.out hB a2 c2 hG hple (by omega) 25
      have hmn : eachP ks ns n n0 (r + 1) = eachP ks ns n n0 r + pos ks ns (n - eachP ks ns n n0 r) n0 := rfl
      have hsl := run_rest a' (n - eachP ks ns n n0 r) c' (pos ks ns (n - eachP ks ns n n0 r) n0) hple (by omega)
      rw [hm] at HP HNX g1 g3 hple hmn hsl
      clear g2
      obtain ⟨P, hP⟩ : ∃ P, pos ks ns m n0 = P := ⟨_, rfl⟩
      rw [hP] at HNX g3 hple hmn hsl
      have hm0 : (0 : Int) < (m : Int) := by omega
      have hpz : ((P : Int) == 0) = false := by rw [beq_eq_false_iff_ne]; omega
      have hmz : ¬ most ≤ (r : Int) := by omega
      go_wp2_with fail
      refine (HP.out).mono ?_
      intro e w1 hE
      obtain ⟨a2, c2, rfl, hG, hB⟩ := hE.1 rfl
      rw [hP]
      obtain ⟨a3, c3, w3, hrun, hN⟩ := HNX.out w1 a2 c2 hB hG
      have HRUN := Lib.hid hrun; have HN := Lib.hid hN
      clear hrun hN hG hB hE HP HNX
      go_wp2_with (at_builtin; refine Lib.wpList_append_run _ rfl (.tmp 32) (.tmp 34) 25 25 rfl (.slice ao r co) _ (by rfl) (by rfl) _ _ HRUN.out ?_)
      go_roundw
      case rel => exact ⟨r + 1, m - P, _, _, a3, c3, by omega, by omega, rfl, rfl, HN⟩
      case measure => simp; omega
    · obtain rfl : r = R := by omega
      rcases HSY.out with ⟨h0, rfl, rfl⟩ | ⟨h0, rfl, F, hF, hok, hbad, hend⟩
      · obtain rfl : m = 0 := by omega
        go_wp2
        refine bodyPost_ret (v := .tuple #[.slice ao rows co, .int .i64 0]) (by simp [results, Try.results13, go_sem]) rfl ?_
        exact ⟨ao, co, rfl, HQ.out.out, HQ.out.keep⟩
      · have HP := Lib.hid (PART.out r a' c' ao co wr F HQ.out hF hok hbad)
        clear hok
        rw [hm] at HP h0 hbad hend
        have hm0 : (0 : Int) < (m : Int) := by omega
        rcases hend with ⟨hFn, hf⟩ | ⟨rfl, hp0, rfl⟩ | ⟨rfl, hp0, hmost, rfl⟩
        · have hfz : (f != 0) = true := by rw [bne_iff_ne, hf]; exact hbad hFn
          have HF := Lib.hid hf; clear hf
          go_wp2_with fail
          refine (HP.out).mono ?_
          intro e w1 hE
          obtain ⟨rfl, hB⟩ := hE.2 hFn
          rw [← HF.out]
          have HB := Lib.hid hB; clear hB hE HP hbad
          go_wp2
          refine bodyPost_ret (v := .tuple #[.slice none 0 0, .int .i64 f]) (by simp [results, Try.results13, go_sem]) rfl ?_
          exact ⟨none, 0, rfl, ERow.nil _ _ _ _ _, HQ.out.keep.trans (HB.out.mono HQ.out.keep.size)⟩
        · obtain ⟨P, hP⟩ : ∃ P, pos ks ns m F = P := ⟨_, rfl⟩
          rw [hP] at hp0
          have hpz : ((P : Int) == 0) = true := by rw [beq_iff_eq]; omega
          go_wp2_with fail
          refine (HP.out).mono ?_
          intro e w1 hE
          obtain ⟨a2, c2, rfl, hG, hB⟩ := hE.1 rfl
          rw [hP]
          have HB := Lib.hid hB; clear hB hE HP hbad hG
          go_wp2
          refine bodyPost_ret (v := .tuple #[.slice none 0 0, .int .i64 21]) (by simp [results, Try.results13, go_sem]) rfl ?_
          exact ⟨none, 0, rfl, ERow.nil _ _ _ _ _, HQ.out.keep.trans (HB.out.mono HQ.out.keep.size)⟩
        · obtain ⟨P, hP⟩ : ∃ P, pos ks ns m F = P := ⟨_, rfl⟩
          rw [hP] at hp0
          have hpz : ((P : Int) == 0) = false := by rw [beq_eq_false_iff_ne]; omega
          go_wp2_with fail
          refine (HP.out).mono ?_
          intro e w1 hE
          obtain ⟨a2, c2, rfl, hG, hB⟩ := hE.1 rfl
          rw [hP]
          have HB := Lib.hid hB; clear hB hE HP hbad hG
          go_wp2
          refine bodyPost_ret (v := .tuple #[.slice none 0 0, .int .i64 3]) (by simp [results, Try.results13, go_sem]) rfl ?_
          exact ⟨none, 0, rfl, ERow.nil _ _ _ _ _, HQ.out.keep.trans (HB.out.mono HQ.out.keep.size)⟩
end Go.Proofs.Ytknpdcnhdmbbiaa

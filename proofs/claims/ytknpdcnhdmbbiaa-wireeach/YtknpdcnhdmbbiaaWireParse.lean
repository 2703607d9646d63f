
/-
  What steps read: parse's own function.
-/
import Derived.Test.YtknpdcnhdmbbiaaWireGot
namespace Go.Proofs.Ytknpdcnhdmbbiaa
open Go.RowKit Go.Shelf
set_option linter.unusedVariables false
/-- How many bytes the first i steps read; what step i gives. -/
def pos (ks ns : Nat → Int) (n : Nat) : Nat → Nat
  | 0 => 0
  | i + 1 => pos ks ns n i + stepK (ks i) (ns i) (n - pos ks ns n i)
def gotX (ks ns : Nat → Int) (l : List Int) (i : Nat) : Int := stepX (ks i) (l.drop (pos ks ns l.length i))
def gotB (ks ns : Nat → Int) (l : List Int) (i : Nat) : List Int := stepB (ks i) (ns i) (l.drop (pos ks ns l.length i))
/-- The error of step i (0: none). -/
def noAt (ks ns : Nat → Int) (n i : Nat) : Int := stepNo (ks i) (ns i) (n - pos ks ns n i)
theorem stepK_le {k m : Int} {n : Nat} (h : stepNo k m n = 0) : stepK k m n ≤ n := by
  unfold stepNo at h; unfold stepK
  split
  · rename_i hk; rw [if_pos hk] at h; split at h <;> omega
  · rename_i hk
    rw [if_neg hk] at h
    split
    · rename_i h0; rw [if_pos h0] at h; split at h <;> omega
    · split <;> omega
theorem pos_le (ks ns : Nat → Int) (n : Nat) : ∀ i, (∀ j, j < i → noAt ks ns n j = 0) → pos ks ns n i ≤ n
  | 0, _ => Nat.zero_le _
  | i + 1, h => by
    have h1 := pos_le ks ns n i (fun j hj => h j (by omega))
    have h2 := stepK_le (h i (by omega))
    simp only [pos]; omega
theorem RdAt.low {w W : World} {R U : Nat} {a : Option Addr} {n c : Nat} {l : List Int} (h : RdAt w R U a n c l) (base : Nat) (hR : R < base) (hU : U < base) (hlo : 0 < n → ∀ x, a = some x → x.block < base) (hz : w.heap.size ≤ W.heap.size) (hb : ∀ j, j < base → W.heap[j]? = w.heap[j]?) : RdAt W R U a n c l :=
  ⟨(hb R hR).trans h.rd, (hb U hU).trans h.run, h.ne, h.row.same hz fun x h0 hx _ => hb x.block (hlo h0 x hx), h.cap, h.far⟩
theorem restA_low {a : Option Addr} {n c k base : Nat} (hc : n ≤ c) (hk : k ≤ n) (hf : 0 < n → ∀ x, a = some x → x.block < base) : 0 < n - k → ∀ x, restA a c k = some x → x.block < base := fun h0 x hx => by
  unfold restA at hx
  rw [if_neg (by omega)] at hx
  cases a with
  | none => cases hx
  | some y =>
    simp at hx
    have := hf (by omega) y rfl
    rw [← hx]
    unfold Addr.add
    split <;> simpa using this
theorem GRow.below {W W' : World} {base : Nat} {a : Option Addr} {i c : Nat} {xs : Nat → Int} {bs : Nat → List Int} (h : GRow W base a i c xs bs) (hb : Below W.heap.size W W') : GRow W' base a i c xs bs := by
  obtain ⟨A, C, ho, he⟩ := h
  exact ⟨A, C, ho.kept (grown_below hb none) (by cases a <;> simp [Value.ownBlock]), fun j hj => ⟨(he j hj).1.below hb, (he j hj).2⟩⟩
theorem GRow.blk {W : World} {base : Nat} {a : Option Addr} {i c : Nat} {xs : Nat → Int} {bs : Nat → List Int} (h : GRow W base a i c xs bs) : ∀ x, a = some x → base ≤ x.block ∧ x.block < W.heap.size := fun x hx => by
  obtain ⟨A, C, ho, he⟩ := h
  subst hx
  rcases ho.2 with ⟨e, _⟩ | ⟨g, cap, cur, e, hb, hg, _⟩
  · simp at e
  · simp at e
    obtain ⟨rfl, _⟩ := e
    exact ⟨hb, (Array.getElem?_eq_some_iff.1 hg).1⟩
/-- Where the loop stands behind i steps. -/
structure PSt (w : World) (R U n : Nat) (l : List Int) (ks ns : Nat → Int) (i : Nat) (ao : Option Addr) (co : Nat) (a : Option Addr) (c : Nat) (W : World) : Prop where
  rd : RdAt W R U a (n - pos ks ns n i) c (l.drop (pos ks ns n i))
  low : 0 < n - pos ks ns n i → ∀ x, a = some x → x.block < w.heap.size
  out : GRow W w.heap.size ao i co (gotX ks ns l) (gotB ks ns l)
  grown : w.grownBy W (some R)
/-- One step on, in worlds. -/
theorem PSt.next {w : World} {R U n : Nat} {l : List Int} {ks ns : Nat → Int} {i : Nat} {ao : Option Addr} {co : Nat} {a : Option Addr} {c : Nat} {W W1 w2 : World} (h : PSt w R U n l ks ns i ao co a c W) (hln : l.length = n) (hR : R < w.heap.size) (hU : U < w.heap.size) (hB : Below W.heap.size W W1) (hno : noAt ks ns n i = 0) (hi : i ≤ 1000000) (ty : TypeId)
    {e : Ending} (hP : OnePost R U a (n - pos ks ns n i) c (l.drop (pos ks ns n i)) (stepK (ks i) (ns i) (n - pos ks ns n i)) (gotX ks ns l i) (gotB ks ns l i) W1 e w2) :
    ∃ a' c', e = .returned (.agg #[.int .u64 (gotX ks ns l i), .slice a' (gotB ks ns l i).length c']) ∧ ∃ a2 c2 w3, (Builtin.append_ #[29, 29] ty #[.slice ao i co, .slice (some ⟨w2.heap.size, 0, none⟩) 1 1]).run Try.prog (w2.alloc (.cells #[.int .u64 (gotX ks ns l i), .slice a' (gotB ks ns l i).length c'] 42)) = .ok (.slice a2 (i + 1) c2) w3 ∧
      ∃ a4 c4, PSt w R U n l ks ns (i + 1) a2 c2 a4 c4 w3 := by
  obtain ⟨a', c', rfl, hO, hr2, hg2⟩ := hP
  have hz1 := hB.size; have hz2 := hg2.size; have hz0 := h.grown.size
  have hout2 : GRow w2 w.heap.size ao i co (gotX ks ns l) (gotB ks ns l) := (h.out.below hB).kept hg2 hR
  obtain ⟨a2, c2, w3, hrun, hG, hg3, hb3⟩ := append_got w2 ty w.heap.size ao i co (gotX ks ns l) (gotB ks ns l) hout2 a' c' (hO.mono (by omega)) (fun y z hy hz => by have := (h.out.blk y hy).2; have := (hO.blk z hz).1; omega) hi (by omega)
  have hlow3 : ∀ j, j < w.heap.size → w3.heap[j]? = w2.heap[j]? := fun j hj => by
    rw [hg3.block j (by simp; omega) (fun e => by
      cases ao with
      | none => simp at e
      | some y => have := (h.out.blk y rfl).1; simp at e; omega)]
    exact heap_alloc_old w2 _ (by omega)
  have hz3 : w2.heap.size ≤ w3.heap.size := by have := hg3.size; simp at this; omega
  have hk := stepK_le hno
  have e1 : n - pos ks ns n (i + 1) = n - pos ks ns n i - stepK (ks i) (ns i) (n - pos ks ns n i) := by simp only [pos]; omega
  have e2 : l.drop (pos ks ns n (i + 1)) = (l.drop (pos ks ns n i)).drop (stepK (ks i) (ns i) (n - pos ks ns n i)) := by simp only [pos, List.drop_drop]
  have hlo := restA_low h.rd.cap hk h.low
  refine ⟨a', c', rfl, a2, c2, w3, hrun, restA a c (stepK (ks i) (ns i) (n - pos ks ns n i)), c - stepK (ks i) (ns i) (n - pos ks ns n i), ?_, ?_, hG, ?_⟩
  · rw [e1, e2]
    exact hr2.low w.heap.size hR hU hlo hz3 hlow3
  · rw [e1]; exact hlo
  · refine ⟨?_, ?_, ?_, by omega, fun j hj hne => ?_⟩
    · exact hg3.os.trans (hg2.os.trans (hB.os.trans h.grown.os))
    · exact hg3.tape.trans (hg2.tape.trans (hB.tape.trans h.grown.tape))
    · exact hg3.output.trans (hg2.output.trans (hB.output.trans h.grown.output))
    · exact (hlow3 j hj).trans ((hg2.block j (by omega) hne).trans ((hB.block j (by omega)).trans (h.grown.block j hj hne)))
theorem PSt.start {w : World} {R U n : Nat} {l : List Int} {ks ns : Nat → Int} {a : Option Addr} {c : Nat} (h : RdAt w R U a n c l) : PSt w R U n l ks ns 0 (some ⟨w.heap.size, 0, none⟩) 0 a c (w.alloc (.cells #[] 42)) :=
  ⟨h.below ((Below.refl _ w).alloc (Nat.le_refl _) _), fun h0 x hx => h.row.lt h0 x hx, ⟨fun _ => none, fun _ => 0, World.ownsRow_made w _ 0 (Nat.le_refl _) (by decide) rfl, fun j hj => by omega⟩, ⟨rfl, rfl, rfl, by simp, fun j hj _ => heap_alloc_old w _ hj⟩⟩
def GotsQ (base n0 : Nat) (xs : Nat → Int) (bs : Nat → List Int) (v : Value) (W : World) : Prop := ∃ ao co, v = .slice ao n0 co ∧ GRow W base ao n0 co xs bs
/-- How parse's function ends: F = n0: well; else at step F. -/
def ParseEnd (R U n : Nat) (l : List Int) (ks ns : Nat → Int) (n0 F : Nat) (w : World) (e : Ending) (w' : World) : Prop :=
  (F = n0 → ParseOk R U (n - pos ks ns n n0) (l.drop (pos ks ns n n0)) (GotsQ w.heap.size n0 (gotX ks ns l) (gotB ks ns l)) w e w') ∧ (F < n0 → ParseFail R U (noAt ks ns n F) w e w')
set_option maxHeartbeats 4000000 in
set_option maxRecDepth 100000 in
theorem parse_any (R U : Nat) (a : Option Addr) (n c : Nat) (l : List Int) (S : Nat) (a0 : Option Addr) (n0 c0 : Nat) (ks ns : Nat → Int) (F : Nat) (w : World) (h : RdAt w R U a n c l) (hn : n0 ≤ 100) (hlim : n ≤ 140737488355328)
    (hS : ∀ W, w.grownBy W (some R) → StAt W a0 n0 ks ns ∧ W.cell? ⟨S, 0, none⟩ = some (.slice a0 n0 c0) ∧ S < w.heap.size)
    (hF : F ≤ n0) (hok : ∀ j, j < F → noAt ks ns n j = 0) (hbad : F < n0 → noAt ks ns n F ≠ 0) :
    Calls Try.prog 52 #[.pointer (some ⟨R, 0, none⟩), .pointer (some ⟨S, 0, none⟩)] w (ParseEnd R U n l ks ns n0 F w) := by
  have HH := Lib.hid h; have HS := Lib.hid hS; have HOK := Lib.hid hok; have HBAD := Lib.hid hbad; have HLN := Lib.hid h.row.len; clear h hS hok hbad
  have d0 : (w.alloc (.cells #[] 42)).cell? ⟨S, 0, none⟩ = some (.slice a0 n0 c0) := (HS.out _ (PSt.start (ks := ks) (ns := ns) HH.out).grown).2.1
  go_enter Try.func52, Try.ntmps52
  go_wp2
  go_loopw [4, 10] (fun s iv wr => ∃ (i : Nat) (ao : Option Addr) (co : Nat) (a' : Option Addr) (c' : Nat), i ≤ F ∧ iv = .int .i64 i ∧ s = .slice ao i co ∧ Hid (PSt w R U n l ks ns i ao co a' c' wr)) (fun _ iv _ => n0 - (intOf iv).toNat)
  case atStart => exact ⟨0, _, _, a, c, Nat.zero_le _, rfl, rfl, Lib.hid (PSt.start HH.out)⟩
  case round =>
    obtain ⟨i, ao, co, a', c', hi, rfl, rfl, HP⟩ := hrel
    clear d0
    by_cases hlt : i < n0
    · have hltz : (i : Int) < (n0 : Int) := by omega
      obtain ⟨⟨b, o, hr⟩, _, _⟩ := HS.out _ HP.out.grown
      obtain ⟨rfl, hbl, g0, g1⟩ := hr i hlt
      clear hr
      have hlp : (l.drop (pos ks ns n i)).length = n - pos ks ns n i := by rw [List.length_drop, HLN.out]
      by_cases hiF : i < F
      · have HONE : Hid (∀ W, Below wr.heap.size wr W → Calls Try.prog 53 #[.pointer (some ⟨R, 0, none⟩), .agg #[.int .i64 (ks i), .int .i64 (ns i)]] W (OnePost R U a' (n - pos ks ns n i) c' (l.drop (pos ks ns n i)) (stepK (ks i) (ns i) (n - pos ks ns n i)) (gotX ks ns l i) (gotB ks ns l i) W)) := Lib.hid fun W hB => by
          have := one_ok R U a' _ c' _ (ks i) (ns i) W (HP.out.rd.below hB) (by omega) (HOK.out i hiF)
          unfold gotX gotB
          rw [HLN.out]
          exact this
        have HNX : Hid (∀ W1 w2 e, Below wr.heap.size wr W1 → OnePost R U a' (n - pos ks ns n i) c' (l.drop (pos ks ns n i)) (stepK (ks i) (ns i) (n - pos ks ns n i)) (gotX ks ns l i) (gotB ks ns l i) W1 e w2 → _) := Lib.hid fun W1 w2 e hB hP => HP.out.next HLN.out HH.out.ltR HH.out.ltU hB (HOK.out i hiF) (by omega) 29 hP
        generalize ks i = k at g0 HONE HNX
        generalize ns i = m at g1 HONE HNX
        go_wp2_with fail
        refine (HONE.out _ ((Below.refl _ wr).alloc (Nat.le_refl _) _)).mono ?_
        intro e w2 hP
        obtain ⟨a5, c5, rfl, a2, c2, w3, hrun, a4, c4, hN⟩ := HNX.out _ _ _ ((Below.refl _ wr).alloc (Nat.le_refl _) _) hP
        have HRUN := Lib.hid hrun; have HN := Lib.hid hN
        clear hrun hN hP HONE HNX hlp
        generalize gotX ks ns l i = x at HRUN
        generalize (gotB ks ns l i).length = z at HRUN
        go_wp2_with (at_builtin; refine Lib.wpList_append_run _ rfl (.tmp 14) (.tmp 18) 29 29 rfl (.slice ao i co) _ (by rfl) (by rfl) _ _ HRUN.out ?_)
        go_roundw
        case rel => exact ⟨i + 1, a2, c2, a4, c4, by omega, by go_num, rfl, HN⟩
        case measure => simp [intOf]; omega
      · obtain rfl : i = F := by omega
        have hb := HBAD.out hlt
        have HONE : Hid (∀ W, Below wr.heap.size wr W → Calls Try.prog 53 #[.pointer (some ⟨R, 0, none⟩), .agg #[.int .i64 (ks i), .int .i64 (ns i)]] W (OneFail U (noAt ks ns n i) W)) := Lib.hid fun W hB => one_no R U a' _ c' _ (ks i) (ns i) W (HP.out.rd.below hB) hb
        have HB := Lib.hid hb; clear hb
        generalize ks i = k at g0 HONE
        generalize ns i = m at g1 HONE
        go_wp2_with fail
        refine (HONE.out _ ((Below.refl _ wr).alloc (Nat.le_refl _) _)).mono ?_
        rintro e w2 ⟨rfl, h1, h2⟩
        refine ⟨rfl, fun e => by omega, fun _ => ⟨rfl, h1, ?_⟩⟩
        have hg := HP.out.grown
        have hz := hg.size; have hz2 := h2.size
        simp at hz2
        exact ⟨h2.os.trans hg.os, h2.tape.trans hg.tape, h2.output.trans hg.output, by omega, fun j hj hs hr => (h2.block j (by simp; omega) hr).trans ((heap_alloc_old wr _ (by omega)).trans (hg.block j hj (by simpa using hs)))⟩
    · have hltz : ¬ (i : Int) < (n0 : Int) := by omega
      obtain rfl : i = n0 := by omega
      obtain rfl : i = F := by omega
      go_wp2
      go_ret
      refine ⟨fun _ => ⟨_, a', c', rfl, HP.out.rd, ?_, ao, co, rfl, HP.out.out⟩, fun e => by omega⟩
      have hg := HP.out.grown
      exact ⟨hg.os, hg.tape, hg.output, hg.size, fun j hj hs hr => hg.block j hj (by simpa using hs)⟩
end Go.Proofs.Ytknpdcnhdmbbiaa

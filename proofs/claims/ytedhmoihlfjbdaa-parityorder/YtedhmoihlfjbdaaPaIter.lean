/-
  parity.numbersOf.
-/
import Derived.Test.YtedhmoihlfjbdaaPaPlain
import Derived.Test.YtedhmoihlfjbdaaRefSeqs
namespace Go.Proofs.Ytedhmoihlfjbdaa
open Go.RowKit Go.Shelf
set_option linter.unusedVariables false
/-- What numbersOf leaves. -/
def NumsOut (ls : List (List Int)) (w : World) (e : Ending) (w' : World) : Prop :=
  (Pa.ncode ls ≠ 0 → e = .returned (.tuple #[.slice none 0 0, .int .i64 (Pa.ncode ls)]) ∧ Below w.heap.size w w') ∧
  (Pa.ncode ls = 0 → ∃ a c, e = .returned (.tuple #[.slice a ls.length c, .int .i64 0]) ∧ w'.ownsRow w.heap.size 29 1 (.slice a ls.length c) ls.length ((Pa.seqs ls ls.length).map (.int .u16)) ∧ Below w.heap.size w w')
/-- In front of round k. -/
structure NS (ls : List (List Int)) (w : World) (k : Nat) (a : Option Addr) (c : Nat) (f r : Int) (W : World) : Prop where
  err : Pa.err ls k = 0
  fst : 0 < k → f = Pa.src ls
  mix : r = if Pa.mix (Pa.src ls) ls k then 61 else 0
  own : W.ownsRow w.heap.size 29 1 (.slice a k c) k ((Pa.seqs ls k).map (.int .u16))
  low : Below w.heap.size w W
theorem NS.bad {ls : List (List Int)} {w W : World} {k : Nat} {a : Option Addr} {c : Nat} {f r : Int} {n : Nat} (h : NS ls w k a c f r W) (hl : (ls.getD k []).length = n) {len : Nat} (hk : k < len) (hc : ls.length = len) (hf : ¬ pcodeF n (ls.getD k []) = 0) :
    Pa.ncode ls = pcodeF n (ls.getD k []) := by
  have h1 : Pa.err ls (k + 1) = pcodeF n (ls.getD k []) := by
    show (if Pa.err ls k ≠ 0 then Pa.err ls k else pcodeF (ls.getD k []).length (ls.getD k [])) = _
    rw [h.err, if_neg (by simp), hl]
  have h2 : Pa.err ls ls.length = pcodeF n (ls.getD k []) := (Pa.err_stay (k := k + 1) (by omega) (by rw [h1]; exact hf)).trans h1
  unfold Pa.ncode; rw [h2, if_pos hf]
theorem NS.step {ls : List (List Int)} {w W : World} {k : Nat} {a : Option Addr} {c : Nat} {f r : Int} {n : Nat} (h : NS ls w k a c f r W) (hl : (ls.getD k []).length = n) (hf : pcodeF n (ls.getD k []) = 0) :
    Pa.err ls (k + 1) = 0 ∧ (k = 0 → (ppk (ls.getD k [])).ssrc = Pa.src ls) ∧ (if Pa.mix (Pa.src ls) ls (k + 1) then (61 : Int) else 0) = (if (ppk (ls.getD k [])).ssrc = Pa.src ls then r else 61) ∧ (Pa.seqs ls (k + 1)).map (Value.int .u16) = (Pa.seqs ls k).map (Value.int .u16) ++ [.int .u16 (ppk (ls.getD k [])).seq] := by
  refine ⟨?_, fun h0 => by subst h0; rfl, ?_, by rw [Pa.seqs_succ, List.map_append]; rfl⟩
  · show (if Pa.err ls k ≠ 0 then Pa.err ls k else pcodeF (ls.getD k []).length (ls.getD k [])) = _
    rw [h.err, if_neg (by simp), hl, hf]
  · show (if (Pa.mix (Pa.src ls) ls k || decide ((ppk (ls.getD k [])).ssrc ≠ Pa.src ls)) = true then (61 : Int) else 0) = _
    rw [h.mix]
    generalize (ppk (ls.getD k [])).ssrc = x
    generalize Pa.src ls = y
    generalize Pa.mix y ls k = m
    by_cases h1 : x = y
    · subst h1; simp
    · rw [if_neg h1, if_pos (by simp [h1])]
set_option maxHeartbeats 1000000 in
set_option maxRecDepth 100000 in
theorem nums_any (a : Option Addr) (len c : Nat) (ls : List (List Int)) (w : World) (h : PksAt w a len ls) (hlen : len ≤ 1000000000) :
    Calls Try.prog 55 #[.slice a len c] w (NumsOut ls w) := by
  have hcount := h.count
  have HP := Lib.hid h; clear h
  go_enter Try.func55, Try.ntmps55
  go_wp2_with fail
  go_loopw [4, 5, 6, 13] (fun nv fv rv iv wr => ∃ (k : Nat) (a' : Option Addr) (c' : Nat) (f r : Int), k ≤ len ∧ iv = .int .i64 k ∧ nv = .slice a' k c' ∧ fv = .int .u32 f ∧ rv = .int .i64 r ∧ Hid (NS ls w k a' c' f r wr)) (fun _ _ _ iv _ => len - (intOf iv).toNat)
  case atStart => exact ⟨0, none, 0, 0, 0, Nat.zero_le _, rfl, rfl, rfl, rfl, Lib.hid ⟨rfl, fun h => by omega, rfl, World.ownsRow_nil _ _ _ _, Below.refl _ _⟩⟩
  case round =>
    obtain ⟨k, a', c', f, r, hk, rfl, rfl, rfl, rfl, HN⟩ := hrel
    by_cases hlt : k < len
    · have hltz : (k : Int) < (len : Int) := by omega
      obtain ⟨b, o, pa, pn, pc, rfl, hbl, hcell, hba, hpc, hpl⟩ := HP.out.get hlt
      have e1 : wr.cell? ⟨b, o + k, none⟩ = some (.slice pa pn pc) := (HN.out.low.cell (p := ⟨b, o + k, none⟩) hbl).trans hcell
      have hln := hba.len
      have HL := Lib.hid hln
      have HPA := Lib.hid (parse5_any pa pn pc _ wr (hba.below HN.out.low) hpc)
      clear hcell hba hln
      go_wp2_with fail
      refine HPA.out.mono ?_
      rintro e w2 ⟨h3, h4⟩
      by_cases hf : pcodeF pn (ls.getD k []) = 0
      · obtain ⟨s, rfl, hpk, hB2⟩ := h4 hf
        have hstep := NS.step HN.out HL.out hf
        have hown := HN.out.own.kept (grown_of_below hB2) (by
          cases a' with
          | none => exact .inl rfl
          | some y => exact .inr (fun e => by cases e))
        have hlow := HN.out.low.trans (hB2.mono HN.out.low.size)
        obtain ⟨a5, c5, w5, hrun, hO5, hB5, _, _⟩ := append_u16 (w2.alloc (.cells (pkc (ppk (ls.getD k [])) s) 71)) 52 w.heap.size a' k c' _ (hown.alloc _) (ppk (ls.getD k [])).seq (by omega) (by have := hlow.size; simp; omega)
        have hlow5 := (hlow.alloc hlow.size (.cells (pkc (ppk (ls.getD k [])) s) 71)).trans hB5
        have HST := Lib.hid hstep; have HO5 := Lib.hid hO5; have HB5 := Lib.hid hlow5
        have hq2 : (w2.alloc (.cells (pkc (ppk (ls.getD k [])) s) 71)).cell? ⟨w2.heap.size, 2, none⟩ = some (.int .u16 (ppk (ls.getD k [])).seq) := by simp [go_sem, pkc]
        have hq4 : (w2.alloc (.cells (pkc (ppk (ls.getD k [])) s) 71)).cell? ⟨w2.heap.size, 4, none⟩ = some (.int .u32 (ppk (ls.getD k [])).ssrc) := by simp [go_sem, pkc]
        rw [World.size_alloc] at hrun
        clear h3 h4 hf HPA hstep hpk hown hO5 hlow5 hlow HL
        unfold pkc at hrun hq2 hq4 ⊢
        generalize ppk (ls.getD k []) = p at *
        obtain ⟨mk, pt, sq, ts, ss, lc, he, pr, le, lp, ld⟩ := p
        obtain ⟨ac, nc, cc, ae, ne, ce, ap, np, cp, ad, nd, cd⟩ := s
        have HRUN := Lib.hid hrun; clear hrun
        by_cases h0 : k = 0
        · have hk0 : ((k : Int) == 0) = true := by simp [h0]
          have HSS := Lib.hid (HST.out.2.1 h0)
          clear h0
          go_wp2_with (at_builtin; refine Lib.wpList_append_run _ rfl (.tmp 34) (.tmp 37) 52 52 rfl (.slice a' k c') _ (by rfl) (by rfl) _ _ HRUN.out ?_)
          go_roundw
          case rel => exact ⟨k + 1, a5, c5, ss, r, by omega, by go_num, rfl, rfl, rfl, Lib.hid ⟨HST.out.1, fun _ => HSS.out, by rw [HST.out.2.2.1, if_pos HSS.out], by rw [HST.out.2.2.2]; exact HO5.out, HB5.out⟩⟩
          case measure => simp [intOf]; omega
        · have hk0 : ((k : Int) == 0) = false := beq_eq_false_iff_ne.2 (by omega)
          have HFF := Lib.hid (HN.out.fst (by omega))
          clear h0
          by_cases hs : ss = f
          · have hsb : (ss == f) = true := by simp [hs]
            have HS := Lib.hid hs; clear hs
            go_wp2_with (at_builtin; refine Lib.wpList_append_run _ rfl (.tmp 34) (.tmp 37) 52 52 rfl (.slice a' k c') _ (by rfl) (by rfl) _ _ HRUN.out ?_)
            go_roundw
            case rel => exact ⟨k + 1, a5, c5, f, r, by omega, by go_num, rfl, rfl, rfl, Lib.hid ⟨HST.out.1, fun _ => HFF.out, by rw [HST.out.2.2.1, if_pos (HS.out.trans HFF.out)], by rw [HST.out.2.2.2]; exact HO5.out, HB5.out⟩⟩
            case measure => simp [intOf]; omega
          · have hsb : (ss == f) = false := beq_eq_false_iff_ne.2 hs
            have HS := Lib.hid hs; clear hs
            go_wp2_with (at_builtin; refine Lib.wpList_append_run _ rfl (.tmp 34) (.tmp 37) 52 52 rfl (.slice a' k c') _ (by rfl) (by rfl) _ _ HRUN.out ?_)
            go_roundw
            case rel => exact ⟨k + 1, a5, c5, f, 61, by omega, by go_num, rfl, rfl, rfl, Lib.hid ⟨HST.out.1, fun _ => HFF.out, by rw [HST.out.2.2.1, if_neg (fun h => HS.out (h.trans HFF.out.symm))], by rw [HST.out.2.2.2]; exact HO5.out, HB5.out⟩⟩
            case measure => simp [intOf]; omega
      · obtain ⟨rfl, hB2⟩ := h3 hf
        have hf' := hf
        have HE := Lib.hid (NS.bad HN.out HL.out hlt (by omega) hf)
        have HLOW := Lib.hid (HN.out.low.trans (hB2.mono HN.out.low.size))
        have hfb : (pcodeF pn (ls.getD k []) == 0) = false := by simpa using hf
        clear h3 h4 HPA hf'
        generalize pcodeF pn (ls.getD k []) = g at *
        go_wp2_with fail
        refine bodyPost_ret (v := .tuple #[.slice none 0 0, .int .i64 g]) (by simp [results, Try.results55, go_sem]) rfl ⟨fun _ => ⟨by rw [HE.out], ?_⟩, fun h => absurd (HE.out.symm.trans h) hf⟩
        exact HLOW.out.alloc HLOW.out.size _
    · obtain rfl : k = len := by omega
      have hmx := HN.out.mix
      have her : Pa.err ls ls.length = 0 := by rw [hcount]; exact HN.out.err
      have hnc : Pa.ncode ls = r := by unfold Pa.ncode; rw [her, if_neg (by simp), hcount, ← hmx]
      have HNC := Lib.hid hnc
      clear hmx her hnc
      by_cases hr : r = 0
      · subst hr
        go_wp2_with fail
        refine bodyPost_ret (v := .tuple #[.slice a' k c', .int .i64 0]) (by simp [results, Try.results55, go_sem]) rfl ⟨fun h => absurd HNC.out h, fun _ => ⟨a', c', by rw [hcount], by rw [hcount]; exact HN.out.own, HN.out.low⟩⟩
      · have hrb : (r == 0) = false := beq_eq_false_iff_ne.2 hr
        go_wp2_with fail
        refine bodyPost_ret (v := .tuple #[.slice none 0 0, .int .i64 r]) (by simp [results, Try.results55, go_sem]) rfl ⟨fun _ => ⟨by rw [HNC.out], HN.out.low⟩, fun h => absurd (HNC.out.symm.trans h) hr⟩
end Go.Proofs.Ytedhmoihlfjbdaa
namespace Go.Proofs.Ytedhmoihlfjbdaa
open Go.RowKit Go.Shelf
set_option linter.unusedVariables false
attribute [local go_sem] Oper.semAt_some
/-- What the iterator hands out. -/
def pitR (ls : List (List Int)) (k : Nat) (v : Array Value) (Wp W : World) : Prop :=
  ∃ a' c', v = #[.agg (ibc (ihd (ls.getD k [])) a' ((ls.getD k []).length - 12) c')] ∧ Own W Wp.heap.size a' ((ls.getD k []).length - 12) c' ((ls.getD k []).drop 12)
def pitPre (B : Nat) (a : Option Addr) (len c : Nat) (ls : List (List Int)) (W : World) : Prop :=
  W.cell? ⟨B, 0, none⟩ = some (.slice a len c) ∧ PksAt W a len ls
set_option maxHeartbeats 1000000 in
set_option maxRecDepth 100000 in
theorem pit_rel (n : Nat) (hn : 1 ≤ n) (B : Nat) (a : Option Addr) (len c : Nat) (ls : List (List Int)) (hlen : len ≤ 9223372036854775807) (hgood : ∀ k, k < len → pcodeF (ls.getD k []).length (ls.getD k []) = 0) :
    SeqRel Fence.wide n Try.prog 93 #[.pointer (some ⟨B, 0, none⟩)] (pitR ls) len 0 (pitPre B a len c ls) := by
  rintro l J Jx W hP hJ hJx hY h0
  have c0 := (hP 0 W h0).1
  have HY := Lib.hid hY; clear hY
  have HG := Lib.hid hgood; clear hgood
  have HJ := Lib.hid hJ; have HJx := Lib.hid hJx; have HP := Lib.hid hP; clear hJ hJx hP
  refine callsIn_of_wp Try.func93 rfl trivial ?_ rfl
  simp only [Try.ntmps93, List.size_toArray, List.length_cons, List.length_nil, Nat.reduceAdd, Nat.reduceSub, Array.replicate_succ, Array.replicate_zero, List.push_toArray, List.append_toArray, List.nil_append, List.cons_append]
  gi_wp2
  gi_loopw [9] (fun i wr => ∃ k : Nat, k ≤ len ∧ i = .int .i64 k ∧ Hid (J k wr) ∧ W.heap.size ≤ wr.heap.size) (fun i _ => len - (intOf i).toNat)
  case atStart => exact ⟨0, Nat.zero_le _, rfl, Lib.hid h0, Nat.le_refl _⟩
  case round =>
    clear h0 c0
    obtain ⟨k, hk, rfl, HJk, hsz⟩ := hrel
    by_cases hlt : k < len
    · have hltz : (k : Int) < (len : Int) := by omega
      obtain ⟨b, o, pa, pn, pc, rfl, hbl, hcell, hba, hpc, hpl⟩ := (HP.out k wr HJk.out).2.get hlt
      have hgk := HG.out k hlt
      rw [hba.len] at hgk
      have HOF := Lib.hid (of_any pa pn pc _ wr hba hpc)
      have HGK := Lib.hid hgk; clear hgk hba
      gi_wp2_with fail
      refine ⟨trivial, (callsIn_wide.2 HOF.out).mono ?_⟩
      rintro e w2 ⟨_, h4⟩
      obtain ⟨a', c', rfl, hO2, hB2⟩ := h4 HGK.out
      have hR0 : pitR ls k #[.agg (ibc (ihd (ls.getD k [])) a' ((ls.getD k []).length - 12) c')] wr (w2.alloc (.cells (ibc (ihd (ls.getD k [])) a' ((ls.getD k []).length - 12) c') 57)) :=
        ⟨a', c', rfl, hO2.below ((Below.refl _ w2).alloc (Nat.le_refl _) _)⟩
      obtain ⟨fn, tmps, assign, body, hy, hR⟩ := HY.out k _ wr _ hlt HJk.out (grown_of_below (hB2.alloc hB2.size _)) hR0 (by omega)
      have HR := Lib.hid hR; clear hR hR0 HOF h4
      have HB2 := Lib.hid hB2; clear hB2 hO2
      unfold ibc at *
      obtain ⟨q, hq⟩ : ∃ q : Nat → Int, ∀ j, (ihd (ls.getD k [])).getD j 0 = q j := ⟨_, fun _ => rfl⟩
      obtain ⟨nb, hnb⟩ : ∃ x, (ls.getD k []).length - 12 = x := ⟨_, rfl⟩
      simp only [hq, hnb] at HR hy ⊢
      clear hq hnb
      gi_wp2
      refine HR.out.mono ?_
      clear HR hy
      rintro e W2 (⟨rfl, hJ2, hs2, hk2⟩ | ⟨rfl, hJx2⟩)
      · have HJ2 := Lib.hid hJ2; clear hJ2 hk2
        have hs3 : wr.heap.size ≤ W2.heap.size := Nat.le_trans HB2.out.size (by simpa using Nat.le_of_succ_le (by simpa using hs2))
        gi_wp2
        go_roundw
        case rel => exact ⟨k + 1, by omega, by go_num, HJ2, by omega⟩
        case measure => simp [intOf]; omega
      · gi_wp2
        refine bodyPost_ret (results_none rfl _ _ _) rfl ?_
        exact ⟨⟨_, rfl⟩, .inr ⟨k + 1, by omega, hJx2⟩⟩
    · have hltz : ¬ (k : Int) < (len : Int) := by omega
      obtain rfl : k = len := by omega
      gi_wp2
      go_end0
      exact ⟨⟨_, rfl⟩, .inl HJk.out⟩
end Go.Proofs.Ytedhmoihlfjbdaa

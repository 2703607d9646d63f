
/-
  WireParts' walk.
-/
import Derived.Test.YtknpdcnhdmbbiaaWireParts0
namespace Go.Proofs.Ytknpdcnhdmbbiaa
open Go.RowKit Go.Shelf
set_option linter.unusedVariables false
def PtSt (w : World) (a : Option Addr) (n : Nat) (l : List Int) (a0 : Option Addr) (n0 : Nat) (ks ns : Nat → Int) (W : World) : Prop :=
  BAt W a n l ∧ StAt W a0 n0 ks ns ∧ Below w.heap.size w W
theorem PtSt.below {w : World} {a : Option Addr} {n : Nat} {l : List Int} {a0 : Option Addr} {n0 : Nat} {ks ns : Nat → Int} {W W' : World} (h : PtSt w a n l a0 n0 ks ns W) (hb : Below W.heap.size W W') : PtSt w a n l a0 n0 ks ns W' :=
  ⟨h.1.below hb, h.2.1.below hb, h.2.2.trans (hb.mono h.2.2.size)⟩
set_option maxHeartbeats 4000000 in
set_option maxRecDepth 100000 in
theorem parts_out (a : Option Addr) (n c : Nat) (a0 : Option Addr) (n0 c0 : Nat) (cut : Int) (w : World) (h : 200 < n ∨ 20 < n0 ∨ n0 = 0) :
    Calls Try.prog 5 #[.slice a n c, .slice a0 n0 c0, .int .i64 cut] w (TrueBelow w) := by
  have hcase : (200 : Int) < (n : Int) ∨ (¬ (200 : Int) < (n : Int) ∧ (20 : Int) < (n0 : Int)) ∨ (¬ (200 : Int) < (n : Int) ∧ ¬ (20 : Int) < (n0 : Int) ∧ ((n0 : Int) == 0) = true) := by
    by_cases h1 : (200 : Int) < (n : Int)
    · exact .inl h1
    · by_cases h2 : (20 : Int) < (n0 : Int)
      · exact .inr (.inl ⟨h1, h2⟩)
      · exact .inr (.inr ⟨h1, h2, by rw [beq_iff_eq]; omega⟩)
  clear h
  rcases hcase with h1 | ⟨h1, h2⟩ | ⟨h1, h2, h3⟩
  all_goals
    go_enter Try.func5, Try.ntmps5
    go_wp2_with fail
    refine (walive_any _).mono ?_
    rintro e w1 ⟨rfl, hB⟩
    go_wp2
    go_ret
    exact ⟨rfl, hB⟩
theorem wpList_append_guard {P : Program} (w : World) {ops : Array Oper} {rest : List Oper} {o : Oper} {a : Act} {Q : Exit → Act → World → Prop} (hw : Region.wanted o (yielded ops a.tmps) = true) (s x : Operand) (t tn : TypeId)
    (ho : o.op = .call { callee := .builtin .append, args := #[s, x], argTypes := #[t, tn] }) (vs vx : Value) (hs : a.eval s = vs) (hx : a.eval x = vx)
    (v' : Value) (w' : World) (hr : (Builtin.append_ #[t, tn] o.type #[vs, vx]).run P w = .ok v' w') (h : wpList P ops Q rest (a.put o.dst v') w') : wpList P ops Q (o :: rest) a w :=
  wpList_step fun K hK => by
    rw [if_pos hw]
    exact Lib.wp_append_run w s x t tn ho vs vx hs hx v' w' hr (hK _ _ h)
set_option maxHeartbeats 4000000 in
set_option maxRecDepth 100000 in
theorem parts_any (a : Option Addr) (n c : Nat) (l : List Int) (a0 : Option Addr) (n0 c0 : Nat) (ks ns : Nat → Int) (cut : Int) (w : World) (hb : BAt w a n l) (hc : n ≤ c) (hc0 : n0 ≤ c0) (hs : StAt w a0 n0 ks ns) (hn : n ≤ 200) (hn0 : n0 ≤ 20) (hpos : 0 < n0) :
    Calls Try.prog 5 #[.slice a n c, .slice a0 n0 c0, .int .i64 cut] w (TrueBelow w) := by
  have HST := Lib.hid (show PtSt w a n l a0 n0 ks ns w from ⟨hb, hs, Below.refl _ _⟩); have HLN := Lib.hid hb.len; have HOK := Lib.hid hb.ok; clear hb hs
  have h1 : ¬ (200 : Int) < (n : Int) := by omega
  have h2 : ¬ (20 : Int) < (n0 : Int) := by omega
  have h3 : ((n0 : Int) == 0) = false := by rw [beq_eq_false_iff_ne]; omega
  have e1 := and31 cut
  obtain ⟨p, hp⟩ : ∃ p : Nat, cut % 32 = p := ⟨(cut % 32).toNat, by omega⟩
  rw [hp] at e1
  have e3 : ((p : Int)).tmod (n0 : Int) = ((p % n0 : Nat) : Int) := by rw [Int.tmod_eq_emod_of_nonneg (by omega)]; simp
  have hr1 : p % n0 < n0 := Nat.mod_lt _ hpos
  have hp32 : p < 32 := by omega
  clear hp
  generalize p % n0 = r at e3 hr1
  obtain ⟨F, hF, hok, hbad⟩ := first_no ks ns n n0
  have PARTA : Hid (∀ S W, PtSt w a n l a0 n0 ks ns W → W.cell? ⟨S, 0, none⟩ = some (.slice a0 n0 c0) → Calls Try.prog 19 #[.slice a n c, .func (.func 52) #[] #[.pointer (some ⟨S, 0, none⟩)]] W (RunEnd n l ks ns n0 F W)) := Lib.hid fun S W h h4 => gpart_any a n c l S a0 n0 c0 ks ns F W h.1 hc h.2.1 h4 (by omega) (by omega) hF hok hbad
  have PARTB : Hid (∀ S W, PtSt w a n l a0 n0 ks ns W → W.cell? ⟨S, 0, none⟩ = some (.slice a0 r c0) → Calls Try.prog 19 #[.slice a n c, .func (.func 52) #[] #[.pointer (some ⟨S, 0, none⟩)]] W (RunEnd n l ks ns r (min F r) W)) := Lib.hid fun S W h h4 => gpart_any a n c l S a0 r c0 ks ns (min F r) W h.1 hc (h.2.1.take r (by omega)) h4 (by omega) (by omega) (Nat.min_le_right _ _) (fun j hj => hok j (by omega)) (fun hlt => by have h := hbad (by omega); rwa [← show min F r = F by omega] at h)
  have hpr : r ≤ F → pos ks ns n r ≤ n := fun h => pos_le ks ns n r (fun j hj => hok j (by omega))
  have PARTC : Hid (r ≤ F → ∀ S W, PtSt w a n l a0 n0 ks ns W → W.cell? ⟨S, 0, none⟩ = some (.slice (restS a0 c0 r) (n0 - r) (c0 - r)) → Calls Try.prog 19 #[.slice (restA a c (pos ks ns n r)) (n - pos ks ns n r) (c - pos ks ns n r), .func (.func 52) #[] #[.pointer (some ⟨S, 0, none⟩)]] W (RunEnd (n - pos ks ns n r) (l.drop (pos ks ns n r)) (up ks r) (up ns r) (n0 - r) (F - r) W)) := Lib.hid fun hrF S W h h4 => by
    have hp := hpr hrF
    refine gpart_any _ _ _ _ S _ _ _ _ _ (F - r) W (restA_bat h.1 hc _ hp) (by omega) (h.2.1.drop hc0 r hr1) h4 (by omega) (by omega) (by omega) (fun j hj => ?_) (fun hlt => ?_)
    · rw [noAt_up]; exact hok _ (by omega)
    · rw [noAt_up]; rw [show r + (F - r) = F by omega]; exact hbad (by omega)
  have POSC : Hid (r ≤ F → pos (up ks r) (up ns r) (n - pos ks ns n r) (n0 - r) = pos ks ns n n0 - pos ks ns n r ∧ pos ks ns n r ≤ pos ks ns n n0) := Lib.hid fun hrF => by
    have := pos_up ks ns n r (n0 - r)
    rw [show r + (n0 - r) = n0 by omega] at this
    omega
  have BADF : Hid (F < n0 → (noAt ks ns n F != 0) = true) := Lib.hid fun h => by rw [bne_iff_ne]; exact hbad h
  have NOUP : Hid (r ≤ F → noAt (up ks r) (up ns r) (n - pos ks ns n r) (F - r) = noAt ks ns n F) := Lib.hid fun h => by rw [noAt_up, show r + (F - r) = F by omega]
  have BD : Hid (F = n0 → ∀ j, j < n0 → 0 ≤ gotX ks ns l j ∧ gotX ks ns l j < 18446744073709551616) := Lib.hid fun h j hj => gotX_bd HOK.out (by rw [HLN.out]; omega) j (by rw [HLN.out]; exact hok j (by omega))
  have XUP := Lib.hid (gotX_up ks ns l n r HLN.out); have BUP := Lib.hid (gotB_up ks ns l n r HLN.out)
  have HPR := Lib.hid hpr; have HPN := Lib.hid (show F = n0 → pos ks ns n n0 ≤ n from fun h => pos_le ks ns n n0 (fun j hj => hok j (by omega)))
  clear hok hbad hpr
  have hsl := run_restS a0 n0 c0 r (by omega) (by omega)
  have hr0 : (0 : Int) ≤ (r : Int) := by omega
  have hrc : (r : Int) ≤ (c0 : Int) := by omega
  go_enter Try.func5, Try.ntmps5
  go_wp2_with fail
  refine (walive_any _).mono ?_
  rintro e w1 ⟨rfl, hB⟩
  have HS1 := Lib.hid (HST.out.below hB); clear hB HST
  go_wp2_with fail
  go_loopw [35] (fun iv wr => ∃ k : Nat, k ≤ n0 ∧ iv = .int .i64 k ∧ Hid (PtSt w a n l a0 n0 ks ns wr)) (fun iv _ => n0 - (intOf iv).toNat)
  case atStart => exact ⟨0, Nat.zero_le _, rfl, HS1⟩
  case round =>
    obtain ⟨i, hi, rfl, HQ⟩ := hrel
    clear HS1
    by_cases hlt : i < n0
    · have hltz : (i : Int) < (n0 : Int) := by omega
      obtain ⟨b, o, hr⟩ := HQ.out.2.1
      obtain ⟨rfl, hbl, g0, g1⟩ := hr i hlt
      clear hr PARTA PARTB PARTC POSC BADF NOUP BD XUP BUP HPR HPN hsl
      generalize ks i = k at g0
      generalize ns i = m at g1
      have hkc : k < 0 ∨ (¬ k < 0 ∧ 8 < k) ∨ (¬ k < 0 ∧ ¬ 8 < k ∧ (k == 5) = true) ∨ (¬ k < 0 ∧ ¬ 8 < k ∧ (k == 5) = false ∧ (k == 3) = true) ∨ (¬ k < 0 ∧ ¬ 8 < k ∧ (k == 5) = false ∧ (k == 3) = false ∧ (k == 6) = true) ∨ (¬ k < 0 ∧ ¬ 8 < k ∧ (k == 5) = false ∧ (k == 3) = false ∧ (k == 6) = false ∧ (k == 7) = true) ∨ (¬ k < 0 ∧ ¬ 8 < k ∧ (k == 5) = false ∧ (k == 3) = false ∧ (k == 6) = false ∧ (k == 7) = false) := by
        simp only [beq_iff_eq, beq_eq_false_iff_ne]
        omega
      rcases hkc with q1 | ⟨q1, q2⟩ | ⟨q1, q2, q3⟩ | ⟨q1, q2, q3, q4⟩ | ⟨q1, q2, q3, q4, q5⟩ | ⟨q1, q2, q3, q4, q5, q6⟩ | ⟨q1, q2, q3, q4, q5, q6⟩
      rotate_left 6
      · go_wp2
        go_roundw
        case rel => exact ⟨i + 1, by omega, by go_num, Lib.hid (HQ.out.below ((Below.refl _ wr).alloc (Nat.le_refl _) _))⟩
        case measure => simp [intOf]; omega
      all_goals
        go_wp2
        go_ret
        exact ⟨rfl, (HQ.out.below ((Below.refl _ wr).alloc (Nat.le_refl _) _)).2.2⟩
    · have hltz : ¬ (i : Int) < (n0 : Int) := by omega
      go_wp2_with fail
      refine (parse_fn a0 n0 c0 wr).mono ?_
      rintro e w3 ⟨S, rfl, hS3, hB3⟩
      have HS3 := Lib.hid (HQ.out.below hB3); have HC3 := Lib.hid hS3; clear hB3 hS3 HQ
      go_wp2_with fail
      refine (PARTA.out S w3 HS3.out HC3.out).mono ?_
      intro e w4 hR
      have HRA := Lib.hid hR; clear hR
      by_cases hFr : F < r
      · obtain ⟨rfl, hB4⟩ := HRA.out.2 (by omega)
        have HS4 := Lib.hid (HS3.out.below hB4); clear hB4 HS3 HC3 HRA
        have hff : (noAt ks ns n F == noAt ks ns n F) = true := by simp
        have hbf := BADF.out (by omega)
        have HNF : ∃ f, noAt ks ns n F = f := ⟨_, rfl⟩
        obtain ⟨f, hf⟩ := HNF
        rw [hf] at hff hbf ⊢
        go_wp2_with fail
        refine (parse_fn a0 r c0 w4).mono ?_
        rintro e w5 ⟨S5, rfl, hS5, hB5⟩
        have HS5 := Lib.hid (HS4.out.below hB5); have HC5 := Lib.hid hS5; clear hB5 hS5 HS4
        go_wp2_with fail
        refine (PARTB.out S5 w5 HS5.out HC5.out).mono ?_
        intro e w6 hR6
        obtain ⟨rfl, hB6⟩ := hR6.2 (by omega)
        rw [show min F r = F by omega, hf]
        have HS6 := Lib.hid (HS5.out.below hB6); clear hB6 hR6 HS5 HC5 PARTA PARTB PARTC
        go_wp2
        go_ret
        exact ⟨rfl, HS6.out.2.2⟩
      · have hrF : r ≤ F := by omega
        have hmin : min F r = r := by omega
        have hpn := HPR.out hrF
        obtain ⟨q, hq⟩ : ∃ q, pos ks ns n r = q := ⟨_, rfl⟩
        have PC := Lib.hid (PARTC.out hrF); have PSC := Lib.hid (POSC.out hrF)
        have HNU := Lib.hid (NOUP.out hrF)
        clear PARTC POSC HPR NOUP
        rw [hq] at PC PSC hpn HNU XUP BUP
        have hslb := run_rest a n c q hpn (by omega)
        by_cases hFn : F < n0
        · obtain ⟨rfl, hB4⟩ := HRA.out.2 (by omega)
          have HS4 := Lib.hid (HS3.out.below hB4); clear hB4 HS3 HC3 HRA
          have hff : (noAt ks ns n F != noAt ks ns n F) = false := by simp
          have hbf := BADF.out (by omega)
          obtain ⟨f, hf⟩ : ∃ f, noAt ks ns n F = f := ⟨_, rfl⟩
          rw [hf] at hff hbf ⊢
          rw [hf] at HNU
          go_wp2_with fail
          refine (parse_fn a0 r c0 w4).mono ?_
          rintro e w5 ⟨S5, rfl, hS5, hB5⟩
          have HS5 := Lib.hid (HS4.out.below hB5); have HC5 := Lib.hid hS5; clear hB5 hS5 HS4
          go_wp2_with fail
          refine (PARTB.out S5 w5 HS5.out HC5.out).mono ?_
          intro e w6 hR6
          obtain ⟨a6, c6, rfl, hG6, hB6⟩ := hR6.1 hmin
          rw [hq]
          have HS6 := Lib.hid (HS5.out.below hB6); clear hG6 hB6 hR6 HS5 HC5 PARTA PARTB
          go_wp2_with fail
          have hst := HS6.out
          go_region_held3 (PtSt w a n l a0 n0 ks ns) (first | assumption | exact PtSt.below (by assumption) (Below.refl _ _).drew | exact PtSt.below (by assumption) hB)
            (first
              | (go_at_call 12
                 refine (parse_fn (restS a0 c0 r) (n0 - r) (c0 - r) _).mono ?_
                 rintro e w7 ⟨S7, rfl, hS7, hB⟩
                 have hB7 := hB)
              | (go_at_call 19
                 refine (PC.out S7 _ (by assumption) hS7).mono ?_
                 intro e w8 hR8
                 obtain ⟨rfl, hB⟩ := hR8.2 (by omega)
                 rw [HNU.out]
                 have hB8 := hB))
          clear hst
          have HS8 := Lib.hid (show PtSt w a n l a0 n0 ks ns w8 by assumption)
          clear hB7 hB8 hS7
          go_wp2
          go_ret
          exact ⟨rfl, HS8.out.2.2⟩
        · obtain rfl : F = n0 := by omega
          obtain ⟨a4, c4, rfl, hG4, hB4⟩ := HRA.out.1 rfl
          have HS4 := Lib.hid (HS3.out.below hB4); have HG4 := Lib.hid hG4; have HS4B := Lib.hid (HS3.out.below hB4).2.2; clear hB4 hG4 HS3 HC3 HRA
          have hPN := HPN.out rfl
          have HBD := Lib.hid (BD.out rfl)
          clear HPN BD BADF
          obtain ⟨N, hN⟩ : ∃ N, pos ks ns n F = N := ⟨_, rfl⟩
          rw [hN] at PSC hPN ⊢
          go_wp2_with fail
          refine (parse_fn a0 r c0 w4).mono ?_
          rintro e w5 ⟨S5, rfl, hS5, hB5⟩
          have HS5 := Lib.hid (HS4.out.below hB5); have HC5 := Lib.hid hS5; have HZ5 := Lib.hid hB5; clear hB5 hS5 HS4
          go_wp2_with fail
          refine (PARTB.out S5 w5 HS5.out HC5.out).mono ?_
          intro e w6 hR6
          obtain ⟨a6, c6, rfl, hG6, hB6⟩ := hR6.1 hmin
          rw [hq]
          have HS6 := Lib.hid (HS5.out.below hB6); have HG6 := Lib.hid hG6; have HL56 := Lib.hid hB6.size; have HZ6 := Lib.hid (HZ5.out.trans (hB6.mono HZ5.out.size)); clear hG6 hB6 hR6 HS5 HC5 PARTA PARTB
          go_wp2_with fail
          have hst := HS6.out
          go_region_held3 (PtSt w a n l a0 F ks ns) (first | assumption | exact PtSt.below (by assumption) (Below.refl _ _).drew | exact PtSt.below (by assumption) hB)
            (first
              | (go_at_call 12
                 refine (parse_fn (restS a0 c0 r) (F - r) (c0 - r) _).mono ?_
                 rintro e w7 ⟨S7, rfl, hS7, hB⟩
                 have hB7 := hB)
              | (go_at_call 19
                 refine (PC.out S7 _ (by assumption) hS7).mono ?_
                 intro e w8 hR8
                 obtain ⟨a8, c8, rfl, hG8, hB⟩ := hR8.1 rfl
                 rw [PSC.out.1]
                 have hB8 := hB))
          rw [XUP.out, BUP.out] at hG8
          have HS8 := Lib.hid (show PtSt w a n l a0 F ks ns w8 by assumption)
          have hB78 : Below w6.heap.size w6 w8 := ((Below.refl _ w6).drew.trans hB7).trans (hB8.mono (by have := hB7.size; exact this))
          have HG68 := Lib.hid (HG6.out.below hB78); have HG8 := Lib.hid hG8; have HZ8 := Lib.hid (HZ6.out.trans (hB78.mono HZ6.out.size)); have HZ68 := Lib.hid hB78.size
          have HZ7 := Lib.hid (show w6.heap.size ≤ w7.heap.size from hB7.size); have HZ78 := Lib.hid hB8.size
          obtain ⟨m, hm⟩ : ∃ m, N - q = m := ⟨_, rfl⟩
          have hNq : N = q + m := by have := PSC.out.2; omega
          have hNn : N ≤ n := hPN
          obtain ⟨n1, hn1⟩ : ∃ n1, F - r = n1 := ⟨_, rfl⟩
          rw [hm]
          rw [hn1]
          rw [hn1] at HG8
          have hNz : ((N : Int) == (q : Int) + (m : Int)) = true := by rw [beq_iff_eq]; omega
          clear hG8 hB7 hB8 hS7 hst hB78 hB PC hR8
          have hn1p : 0 < n1 := by omega
          have hdr : Below w8.heap.size w8 w8 := Below.refl _ w8
          obtain ⟨a9, c9, w9, hrun, hG9, hg9⟩ := append_gots w8 29 w5.heap.size w7.heap.size a6 r c6 (gotX ks ns l) (gotB ks ns l) (HG68.out.below hdr) a8 n1 c8 (HG8.out.below hdr) hn1p (by have := HL56.out; have := HZ7.out; omega) (fun y hy => by have := (HG6.out.blk y hy).2; have := HZ7.out; omega) (by omega) HZ78.out
          have hB9 : Below w4.heap.size w4 w9 := (HZ8.out).grown hg9 HZ8.out.size (fun k e => by
            cases a6 with
            | none => cases e
            | some y => have := (HG6.out.blk y rfl).1; simp at e; subst e; exact Nat.le_trans HZ5.out.size this)
          obtain ⟨A4, L4, C4, hT4⟩ := HG4.out.gtat HBD.out
          have HT4 := Lib.hid (hT4.below hB9)
          obtain ⟨A9, L9, C9, hT9⟩ := hG9.gtat (fun j hj => HBD.out j (by omega))
          have hrn : r + n1 = F := by omega
          rw [hrn] at hrun hT9
          have HT9 := Lib.hid hT9; have HRUN := Lib.hid hrun
          have HW9 := Lib.hid (show Below w.heap.size w w9 from by
            have h4 := HS4B.out
            exact h4.trans (hB9.mono h4.size))
          clear hT4 hT9 hrun hG9 hg9 hB9 HG68 HG8 HZ8 HZ68 HZ7 HZ78 HG6 HG4
          clear hdr
          go_wp2_with (at_builtin; refine wpList_append_guard _ (by rfl) (.tmp 140) (.tmp 141) 29 29 rfl (.slice a6 r c6) (.slice a8 n1 c8) (by rfl) (by rfl) _ _ HRUN.out ?_)
          refine (gsame_any a9 a4 F c9 c4 (gotX ks ns l) A9 A4 L9 L4 C9 C4 (gotB ks ns l) w9 HT9.out HT4.out (by omega)).mono ?_
          rintro e w10 ⟨rfl, j10, rfl⟩
          go_wp2
          go_ret
          exact ⟨rfl, HW9.out.trans (below_drewN w9 _ j10)⟩
theorem walk_WireParts (a0 : Option Addr) (len0 cap0 : Nat) (z0 : List Int) (a1 : Option Addr) (len1 cap1 : Nat) (ks1 ns1 : Nat → Int) (a2 : Int) (w : World) (w0 : IntRow .u8 w a0 len0 cap0 z0) (w1 : StIn w a1 len1 cap1 ks1 ns1) :
    Calls Try.prog 5 #[.slice a0 len0 cap0, .slice a1 len1 cap1, .int .i64 a2] w (TrueBelow w) := by
  have h1 := w1.at
  by_cases h : 200 < len0 ∨ 20 < len1 ∨ len1 = 0
  · exact parts_out a0 len0 cap0 a1 len1 cap1 a2 w h
  · have hc : len1 ≤ cap1 := by
      rcases w1 with ⟨_, rfl, rfl⟩ | ⟨x, _, hl, _⟩
      · exact Nat.le_refl _
      · exact hl
    exact parts_any a0 len0 cap0 _ a1 len1 cap1 ks1 ns1 a2 w w0.bat.1 w0.bat.2 hc h1.1 (by omega) (by omega) (by omega)
end Go.Proofs.Ytknpdcnhdmbbiaa
